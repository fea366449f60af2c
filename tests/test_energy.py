"""Points 20 and 21: energy, halving and worth."""

import unittest
from fractions import Fraction

from echobound.errors import NoFraction, NoMatrix, NotStill, TooSlow
from echobound.fractions import is_fraction
from echobound.matrices import led
from echobound.stillness import energy, halving, stillness, worth
from tests.helper import (LONG, as_matrix, as_number, as_numbers, as_pair, as_pairs, asked, chance, dotted, flipped,
                          inverse_of, led_by, multiplied, no_fractions, no_lists, no_matrices, other_kinds, refusal,
                          refused_at, seen_in, some_basis, some_number, some_numbers, some_rows, squares_by, unit_rows)

HALF = (1, 2)


def diagonal(numbers):
    return [[Fraction(number) if row == column else Fraction(0) for column in range(len(numbers))]
            for row, number in enumerate(numbers)]


def above_alone(dice, many, figures=1):
    """Rows with noughts but above the diagonal."""
    return [[some_number(dice, figures) if column > row else Fraction(0) for column in range(many)]
            for row in range(many)]


def added_one_by_one(rows, column, row, through, many):
    total = through * through
    for _ in range(many):
        total += dotted(row, column) ** 2
        column = led_by(rows, column)
    return total


def calm(dice, many):
    """Rows that are still, as no row's sizes come to 1."""
    return [[number / (10 * many) for number in row] for row in some_rows(dice, many, many)]


class EnergyTest(unittest.TestCase):
    def told(self, rows, column, row, through):
        told = asked(self, energy, as_matrix(rows), as_pairs(column), as_pairs(row), as_pair(through))
        self.assertTrue(is_fraction(told))
        return as_number(told)

    def test_by_hand(self):
        self.assertEqual(energy([], [], [], (3, 2)), (9, 4))
        self.assertEqual(energy([[HALF]], [(1, 1)], [(1, 1)], (0, 1)), (4, 3))
        self.assertEqual(energy([[HALF]], [(2, 1)], [(3, 1)], (-1, 1)), (49, 1))
        self.assertEqual(energy([[(0, 1)]], [(2, 1)], [(3, 1)], (0, 1)), (36, 1))
        self.assertEqual(energy(through=(1, 1), row=[(0, 1), (1, 1)], column=[(5, 1), (0, 1)],
                                matrix=[[(0, 1), (0, 1)], [(2, 1), (0, 1)]]), (101, 1))
        self.assertEqual(energy([[(0, 1), (0, 1)], [(2, 1), (0, 1)]], [(0, 1), (1, 1)], [(5, 1), (0, 1)], (1, 1)),
                         (1, 1))

    def test_one_row_by_the_closed_sum(self):
        dice = chance(71)
        for _ in range(60):
            by = some_number(dice, 3)
            if abs(by) >= 1:
                by = by / (abs(by) + 1)
            column, row, through = some_numbers(dice, 3, 2)
            wanted = through * through + (column * row) ** 2 / (1 - by * by)
            self.assertEqual(self.told([[by]], [column], [row], through), wanted)

    def test_no_rows(self):
        for through in (Fraction(0), Fraction(-3, 7), Fraction(LONG, 2)):
            self.assertEqual(self.told([], [], [], through), through * through)

    def test_powers_that_end_by_adding_one_by_one(self):
        dice = chance(72)
        for many in range(1, 7):
            for figures in (1, 4):
                rows = above_alone(dice, many, figures)
                column, row = some_numbers(dice, many, figures), some_numbers(dice, many, figures)
                through = some_number(dice, figures)
                wanted = added_one_by_one(rows, column, row, through, many)
                self.assertEqual(self.told(rows, column, row, through), wanted)

    def test_diagonal_ones_by_the_closed_sum(self):
        dice = chance(73)
        for many in range(1, 7):
            by = [Fraction(dice.randint(-8, 8), 9) for _ in range(many)]
            column, row = some_numbers(dice, many), some_numbers(dice, many)
            steps = [one * two for one, two in zip(column, row)]
            wanted = sum(one * two / (1 - x * y) for one, x in zip(steps, by) for two, y in zip(steps, by))
            self.assertEqual(self.told(diagonal(by), column, row, Fraction(0)), wanted)
            basis = some_basis(dice, many)
            seen_row = led_by(flipped(inverse_of(basis)), row)
            self.assertEqual(self.told(seen_in(basis, diagonal(by)), led_by(basis, column), seen_row, Fraction(0)),
                             wanted)

    def test_one_turn_later(self):
        dice = chance(74)
        for many in range(1, 7):
            rows = calm(dice, many)
            column, row = some_numbers(dice, many), some_numbers(dice, many)
            through = some_number(dice)
            later = self.told(rows, led_by(rows, column), row, Fraction(0))
            self.assertEqual(self.told(rows, column, row, through), through ** 2 + dotted(row, column) ** 2 + later)
            near = added_one_by_one(rows, column, row, through, 12)
            self.assertLessEqual(near, self.told(rows, column, row, through))
            self.assertLess(self.told(rows, column, row, through) - near, Fraction(1, 100))

    def test_numbers_of_many_figures(self):
        by, column = Fraction(LONG - 1, LONG), Fraction(3, LONG)
        self.assertEqual(self.told([[by]], [column], [Fraction(LONG)], Fraction(LONG)),
                         LONG * LONG + (column * LONG) ** 2 / (1 - by * by))

    def test_not_still(self):
        ones = [[[(1, 1)]], [[(2, 1)]], [[(-1, 1)]], [[(1, 1), (0, 1)], [(0, 1), HALF]],
                [[(0, 1), (-1, 1)], [(1, 1), (0, 1)]], [[(2, 1), (0, 1)], [(0, 1), HALF]],
                [[HALF, (9, 1), (0, 1)], [(4, 1), HALF, (0, 1)], [(0, 1), (0, 1), HALF]]]
        for matrix in ones:
            for xs in ([(0, 1)] * len(matrix), [HALF] * len(matrix)):
                error = refusal(self, NotStill, energy, matrix, xs, xs, (0, 1))
                self.assertEqual(error.paper, stillness(matrix))
                self.assertIs(type(error.paper), tuple)
                self.assertNotEqual(error.paper[0], "still")

    def test_the_paper_is_the_asker_s_own(self):
        error = refusal(self, NotStill, energy, [[(2, 1)]], [HALF], [HALF], HALF)
        error.paper[1].clear()
        error = refusal(self, NotStill, energy, [[(2, 1)]], [HALF], [HALF], HALF)
        self.assertEqual(error.paper, stillness([[(2, 1)]]))

    def test_no_lists(self):
        for matrix in ([[HALF]], [[HALF, (0, 1)], [(0, 1), HALF]], [], [[(2, 1)]]):
            many = len(matrix)
            given = [matrix, [HALF] * many, [HALF] * many, HALF]
            for at in (1, 2):
                refused_at(self, NoMatrix, energy, given, at, no_lists(many))
        refusal(self, NoMatrix, energy, [[HALF]], [HALF], [HALF, HALF], HALF)
        refusal(self, NoMatrix, energy, [[HALF]], [HALF, HALF], [HALF], HALF)

    def test_through_that_is_no_fraction(self):
        for matrix in ([], [[HALF]], [[(2, 1)]], [[(1, 1)]]):
            xs = [HALF] * len(matrix)
            refused_at(self, NoFraction, energy, [matrix, xs, xs, HALF], 3, [*no_fractions(), *other_kinds()[:5]])

    def test_no_matrix_first_then_no_fraction_then_not_still(self):
        for thing in no_matrices():
            refusal(self, NoMatrix, energy, thing, [HALF], [HALF], "through")
        for wrong in no_lists(1):
            for through in (HALF, None, (2, 4)):
                for matrix in ([[(2, 1)]], [[HALF]]):
                    refusal(self, NoMatrix, energy, matrix, wrong, [HALF], through)
                    refusal(self, NoMatrix, energy, matrix, [HALF], wrong, through)
        for through in no_fractions():
            refusal(self, NoFraction, energy, [[(2, 1)]], [HALF], [HALF], through)
        refusal(self, NotStill, energy, [[(2, 1)]], [HALF], [HALF], HALF)


def first_halved(rows, most):
    """The first power, up to most, at which each row's sizes come to at most 1/2, or None."""
    power = unit_rows(len(rows))
    for many in range(1, most + 1):
        power = multiplied(power, rows)
        if all(sum(abs(number) for number in row) <= Fraction(1, 2) for row in power):
            return many
    return None


class HalvingTest(unittest.TestCase):
    def check(self, rows, most=60):
        wanted = first_halved(rows, most)
        if wanted is None:
            self.assertEqual(refusal(self, TooSlow, halving, as_matrix(rows), most).many, most)
        else:
            told = asked(self, halving, as_matrix(rows), most)
            self.assertEqual(told, wanted)
            self.assertIs(type(told), int)
        return wanted

    def test_by_hand(self):
        self.assertEqual(halving([]), 1)
        self.assertEqual(halving([], 1), 1)
        self.assertEqual(halving([[(0, 1)]]), 1)
        self.assertEqual(halving([[HALF]]), 1)
        self.assertEqual(halving([[(-1, 2)]]), 1)
        self.assertEqual(halving([[(501, 1000)]]), 2)
        self.assertEqual(halving([[(9, 10)]]), 7)
        self.assertEqual(halving([[HALF, HALF], [(0, 1), (0, 1)]]), 2)
        self.assertEqual(halving([[(1, 4), (-1, 4)], [(-1, 3), (1, 6)]]), 1)
        self.assertEqual(halving([[(0, 1), (9, 1)], [(0, 1), (0, 1)]]), 2)
        self.assertEqual(halving(most=3, matrix=[[(3, 4)]]), 3)

    def test_rows_and_not_columns(self):
        self.assertEqual(halving([[HALF, (0, 1)], [HALF, (0, 1)]]), 1)
        self.assertEqual(halving([[HALF, HALF], [(0, 1), (0, 1)]]), 2)
        self.assertEqual(halving([[(1, 4), (1, 4)], [(1, 4), (1, 4)]]), 1)

    def test_just_a_half_and_just_above(self):
        tiny = Fraction(1, LONG)
        self.assertEqual(self.check([[Fraction(1, 2) + tiny]]), 2)
        self.assertEqual(self.check([[Fraction(1, 2) - tiny]]), 1)
        self.assertEqual(self.check([[Fraction(1, 4), Fraction(1, 4) + tiny], [Fraction(0), Fraction(0)]]), 2)
        self.assertEqual(self.check([[Fraction(1, 4), tiny - Fraction(1, 4)], [Fraction(0), Fraction(0)]]), 1)

    def test_any_matrix(self):
        dice = chance(75)
        for many in range(1, 11):
            for by in (1, 3, 6):
                rows = [[number / (by * many) for number in row] for row in some_rows(dice, many, many)]
                self.check(rows, 8)
            self.check(calm(dice, many))

    def test_powers_that_grow_first(self):
        dice = chance(76)
        for many in range(1, 11):
            rows = [[number * 50 for number in row] for row in above_alone(dice, many)]
            self.assertLessEqual(self.check(rows), many)
        self.assertEqual(self.check([[Fraction(1, 3), Fraction(100)], [Fraction(0), Fraction(1, 3)]]), 8)

    def test_up_to_most(self):
        for by in (Fraction(97, 100), Fraction(-98, 100)):
            wanted = first_halved([[by]], 200)
            self.assertEqual(halving([[as_pair(by)]], wanted), wanted)
            self.assertEqual(refusal(self, TooSlow, halving, [[as_pair(by)]], wanted - 1).many, wanted - 1)
        self.assertEqual(refusal(self, TooSlow, halving, [[(299, 300)]], 200).many, 200)

    def test_most_left_out_is_sixty(self):
        slow, fast = Fraction(9886, 10000), Fraction(9885, 10000)
        self.assertEqual((first_halved([[fast]], 200), first_halved([[slow]], 200)), (60, 61))
        self.assertEqual(halving([[as_pair(fast)]]), 60)
        self.assertEqual(refusal(self, TooSlow, halving, [[as_pair(slow)]]).many, 60)
        self.assertEqual(refusal(self, TooSlow, halving, matrix=[[as_pair(slow)]]).many, 60)
        self.assertEqual(halving([[as_pair(slow)]], 61), 61)
        self.assertEqual(halving([[as_pair(slow)]], most=200), 61)

    def test_none_ever(self):
        for matrix in ([[(1, 1)]], [[(2, 1)]], [[(0, 1), (-1, 1)], [(1, 1), (0, 1)]], as_matrix(unit_rows(10))):
            for most in (1, 2, 60, 200):
                error = refusal(self, TooSlow, halving, matrix, most)
                self.assertEqual(error.many, most)

    def test_ten_rows_and_two_hundred_powers(self):
        rows = [[Fraction(int(column == (row + 1) % 10)) for column in range(10)] for row in range(10)]
        rows[9][0] = Fraction(9, 10)
        self.assertEqual(self.check(rows, 200), 70)
        self.assertEqual(refusal(self, TooSlow, halving, as_matrix(rows), 69).many, 69)

    def test_numbers_that_are_no_most(self):
        # Point 21 promises nothing of these; they are refused as point 11 says of numbers that are none of those told.
        for thing in [*other_kinds(), "", "60", HALF, 0, -1, 201]:
            refusal(self, NoMatrix, halving, [[HALF]], thing)

    def test_no_matrix_ahead_of_too_slow(self):
        for thing in no_matrices():
            refusal(self, NoMatrix, halving, thing, 1)
        refusal(self, NoMatrix, halving, [[(2, 1), (2, 1)]], 1)


class WorthTest(unittest.TestCase):
    def check(self, rows, xs):
        told = asked(self, worth, as_matrix(rows), as_pairs(xs))
        self.assertTrue(told == as_pair(squares_by(rows, xs)))
        self.assertTrue(is_fraction(told))

    def test_by_hand(self):
        self.assertEqual(worth([], []), (0, 1))
        self.assertEqual(worth([[HALF]], [(2, 1)]), (2, 1))
        self.assertEqual(worth([[(1, 1), (2, 1)], [(0, 1), (-1, 3)]], [(1, 1), (3, 1)]), (4, 1))
        self.assertEqual(worth(xs=[(1, 3)], matrix=[[(-3, 1)]]), (-1, 3))
        self.assertEqual(worth([[(0, 1), (1, 1)], [(-1, 1), (0, 1)]], [(5, 1), (7, 1)]), (0, 1))

    def test_any_matrix(self):
        dice = chance(77)
        for many in range(0, 11):
            for figures in (1, 3, 30):
                self.check(some_rows(dice, many, many, figures), some_numbers(dice, many, figures))
            self.check(some_rows(dice, many, many), [Fraction(0)] * many)

    def test_numbers_of_any_size(self):
        for figures in (399, 3999, 6000):
            far = 10 ** figures + 9
            self.check([[Fraction(far, far - 1), Fraction(1, 3)], [Fraction(-1, far), Fraction(far - 3)]],
                       [Fraction(far + 2, 7), Fraction(-5, far + 1)])

    def test_no_list(self):
        for many in range(0, 4):
            refused_at(self, NoMatrix, worth, [as_matrix(unit_rows(many)), [HALF] * many], 1, no_lists(many))

    def test_led_by_what_is_still(self):
        dice = chance(78)
        for many in range(1, 7):
            matrix = as_matrix(calm(dice, many))
            word, weights = stillness(matrix)
            self.assertEqual(word, "still")
            xs = as_pairs(some_numbers(dice, many))
            squares = sum(number * number for number in as_numbers(xs))
            behind = as_number(worth(weights, led(matrix, xs)))
            self.assertEqual(behind, as_number(worth(weights, xs)) - squares)


if __name__ == "__main__":
    unittest.main()

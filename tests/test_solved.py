"""Points 13 and 14: solved and signs."""

import unittest
from fractions import Fraction

from echobound.fractions import is_fraction
from echobound.matrices import signs, solved
from tests.helper import (LONG, as_matrix, as_numbers, as_pair, as_pairs, as_rows, asked, chance, flipped, led_by,
                          multiplied, rank_of, some_number, some_numbers, some_rows, squares_by, unit_rows)


def of_rank(dice, many, rank):
    """Rows of numbers of which so many are no sums of the others."""
    while True:
        rows = multiplied(some_rows(dice, many, rank), some_rows(dice, rank, many)) if rank else noughts(many)
        if rank_of(rows) == rank:
            return rows


def noughts(many):
    return [[Fraction(0)] * many for _ in range(many)]


class SolvedTest(unittest.TestCase):
    def check(self, rows, right):
        """What is told is right, whichever of both it is; just one of both can be."""
        told = asked(self, solved, as_matrix(rows), as_pairs(right))
        self.assertIs(type(told), tuple)
        self.assertEqual(len(told), 2)
        word, xs = told
        self.assertIs(type(xs), list)
        self.assertEqual(len(xs), len(rows))
        self.assertTrue(all(is_fraction(x) for x in xs))
        if rank_of(rows) == len(rows):
            self.assertEqual(word, "one")
            self.assertEqual(led_by(rows, as_numbers(xs)), right)
        else:
            self.assertEqual(word, "none")
            self.assertTrue(any(as_numbers(xs)))
            self.assertFalse(any(led_by(rows, as_numbers(xs))))
        return word

    def test_by_hand(self):
        self.assertEqual(solved([], []), ("one", []))
        self.assertEqual(solved([[(2, 1)]], [(3, 1)]), ("one", [(3, 2)]))
        self.assertEqual(solved([[(0, 1), (2, 1)], [(1, 3), (0, 1)]], [(1, 1), (1, 1)]), ("one", [(3, 1), (1, 2)]))
        self.assertEqual(solved(right=[(0, 1)], matrix=[[(-4, 7)]]), ("one", [(0, 1)]))
        word, v = solved([[(0, 1)]], [(0, 1)])
        self.assertEqual(word, "none")
        self.assertNotEqual(v, [(0, 1)])

    def test_as_many_as_can_be(self):
        dice = chance(11)
        for many in range(11):
            for figures in (1, 2, 12):
                self.check(some_rows(dice, many, many, figures), some_numbers(dice, many, figures))

    def test_each_rank(self):
        dice = chance(12)
        for many in range(1, 11):
            for rank in range(many + 1):
                rows = of_rank(dice, many, rank)
                word = self.check(rows, some_numbers(dice, many))
                self.assertEqual(word, "one" if rank == many else "none")

    def test_none_where_many_lists_lead_there(self):
        dice = chance(13)
        for many in range(1, 8):
            for rank in range(many):
                rows = of_rank(dice, many, rank)
                self.assertEqual(self.check(rows, [Fraction(0)] * many), "none")
                self.assertEqual(self.check(rows, led_by(rows, some_numbers(dice, many))), "none")

    def test_noughts_on_the_diagonal(self):
        dice = chance(14)
        for many in range(1, 11):
            for at in range(many):
                rows = some_rows(dice, many, many)
                rows[at][at] = Fraction(0)
                self.check(rows, some_numbers(dice, many))
            rows = [[Fraction(0) if row == column else some_number(dice) for column in range(many)]
                    for row in range(many)]
            self.check(rows, some_numbers(dice, many))

    def test_rows_and_columns_in_another_order(self):
        for many in range(1, 11):
            for turn in range(many):
                rows = unit_rows(many)[turn:] + unit_rows(many)[:turn]
                right = [Fraction(k, 7) for k in range(many)]
                self.check(rows, right)
            self.check(unit_rows(many)[::-1], right)

    def test_rows_that_are_sums_of_others(self):
        dice = chance(15)
        for many in range(2, 11):
            for at in range(many):
                rows = some_rows(dice, many, many)
                others = [row for number, row in enumerate(rows) if number != at]
                rows[at] = [sum(column) for column in zip(*others)]
                self.assertEqual(self.check(rows, some_numbers(dice, many)), "none")
                self.assertEqual(self.check(flipped(rows), some_numbers(dice, many)), "none")

    def test_a_row_or_a_column_of_noughts(self):
        dice = chance(16)
        for many in range(1, 8):
            for at in range(many):
                rows = some_rows(dice, many, many)
                rows[at] = [Fraction(0)] * many
                self.assertEqual(self.check(rows, some_numbers(dice, many)), "none")
                self.assertEqual(self.check(flipped(rows), some_numbers(dice, many)), "none")

    def test_noughts_alone(self):
        for many in range(1, 11):
            self.assertEqual(self.check(noughts(many), [Fraction(0)] * many), "none")
            self.assertEqual(self.check(noughts(many), [Fraction(1)] * many), "none")

    def test_numbers_of_many_figures(self):
        dice = chance(17)
        self.check([[Fraction(LONG, 3)]], [Fraction(5, LONG)])
        self.check([[Fraction(LONG, 3), Fraction(1, LONG)], [Fraction(-1, LONG + 1), Fraction(LONG, 7)]],
                   [Fraction(LONG, 2), Fraction(-1)])
        self.check([[Fraction(LONG), Fraction(1)], [Fraction(1), Fraction(1, LONG)]], [Fraction(1), Fraction(1)])
        self.check(some_rows(dice, 3, 3, 100), some_numbers(dice, 3, 100))
        self.check(some_rows(dice, 10, 10, 25), some_numbers(dice, 10, 25))

    def test_nearly_and_just_not_one(self):
        tiny = Fraction(1, LONG)
        self.assertEqual(self.check([[Fraction(1), Fraction(1)], [Fraction(1), 1 + tiny]], [Fraction(0), tiny]), "one")
        self.assertEqual(self.check([[Fraction(1), tiny], [1 / tiny, Fraction(1)]], [Fraction(0), tiny]), "none")


def some_lower(dice, many, figures=1):
    return [[some_number(dice, figures) if column < row else Fraction(int(row == column)) for column in range(many)]
            for row in range(many)]


def made_of(lower, pivots):
    middle = [[pivot * number for number in row] for pivot, row in zip(pivots, flipped(lower))]
    return multiplied(lower, middle)


class SignsTest(unittest.TestCase):
    def check_above(self, rows, lower, pivots):
        told = asked(self, signs, as_matrix(rows))
        self.assertEqual(told, ("above", as_matrix(lower), as_pairs(pivots)))
        self.assertIs(type(told), tuple)

    def check_not(self, rows):
        told = asked(self, signs, as_matrix(rows))
        self.assertIs(type(told), tuple)
        self.assertEqual(len(told), 2)
        word, v = told
        self.assertEqual(word, "not")
        self.assertIs(type(v), list)
        self.assertEqual(len(v), len(rows))
        self.assertTrue(all(is_fraction(x) for x in v))
        self.assertTrue(any(as_numbers(v)))
        self.assertLessEqual(squares_by(rows, as_numbers(v)), 0)

    def test_by_hand(self):
        self.assertEqual(signs([]), ("above", [], []))
        self.assertEqual(signs([[(3, 7)]]), ("above", [[(1, 1)]], [(3, 7)]))
        self.assertEqual(signs(matrix=[[(2, 1), (1, 1)], [(1, 1), (2, 1)]]),
                         ("above", [[(1, 1), (0, 1)], [(1, 2), (1, 1)]], [(2, 1), (3, 2)]))
        for top in (0, -1, -LONG):
            self.check_not([[Fraction(top)]])
        self.check_not([[Fraction(0), Fraction(1)], [Fraction(1), Fraction(0)]])
        self.check_not([[Fraction(1), Fraction(1)], [Fraction(1), Fraction(1)]])
        self.check_not([[Fraction(1), Fraction(2)], [Fraction(2), Fraction(1)]])

    def test_the_pair_it_was_made_of(self):
        dice = chance(21)
        for many in range(11):
            for figures in (1, 3, 15):
                lower = some_lower(dice, many, figures)
                pivots = [abs(some_number(dice, figures)) + Fraction(1, 9) for _ in range(many)]
                self.check_above(made_of(lower, pivots), lower, pivots)

    def test_numbers_of_many_figures(self):
        lower = [[Fraction(1), Fraction(0)], [Fraction(-LONG, 3), Fraction(1)]]
        for pivots in ([Fraction(1, LONG), Fraction(LONG)], [Fraction(LONG, 2), Fraction(3, LONG + 1)]):
            self.check_above(made_of(lower, pivots), lower, pivots)
        self.check_not(made_of(lower, [Fraction(1, LONG), Fraction(-1, LONG)]))

    def test_one_pivot_that_is_not_above(self):
        dice = chance(22)
        for many in range(1, 11):
            for at in range(many):
                for pivot in (Fraction(0), Fraction(-1, 3), Fraction(-7), Fraction(-1, LONG)):
                    pivots = [abs(some_number(dice)) + Fraction(1, 9) for _ in range(many)]
                    pivots[at] = pivot
                    self.check_not(made_of(some_lower(dice, many), pivots))

    def test_one_place_of_the_diagonal(self):
        dice = chance(23)
        for many in range(1, 11):
            lower = some_lower(dice, many)
            pivots = [abs(some_number(dice)) + 1 for _ in range(many)]
            for at in range(many):
                for place in (Fraction(0), Fraction(-1, 2), Fraction(-LONG)):
                    rows = made_of(lower, pivots)
                    rows[at][at] = place
                    self.check_not(rows)

    def test_diagonal_ones(self):
        for many in range(1, 11):
            self.check_above(unit_rows(many), unit_rows(many), [Fraction(1)] * many)
            for at in range(many):
                for place in (Fraction(0), Fraction(-2)):
                    rows = unit_rows(many)
                    rows[at][at] = place
                    self.check_not(rows)
            self.check_not(noughts(many))

    def test_any_symmetric_one(self):
        dice = chance(24)
        words = []
        for many in range(1, 8):
            for more in range(12):
                half = some_rows(dice, many, many)
                rows = [[one + two for one, two in zip(row, column)] for row, column in zip(half, flipped(half))]
                for at in range(many):
                    rows[at][at] += 2 * more
                told = asked(self, signs, as_matrix(rows))
                words.append(told[0])
                if told[0] == "not":
                    self.check_not(rows)
                    continue
                lower, pivots = as_rows(told[1]), as_numbers(told[2])
                self.assertEqual(made_of(lower, pivots), rows)
                self.assertTrue(all(pivot > 0 for pivot in pivots))
                for row in range(many):
                    self.assertEqual(lower[row][row:], unit_rows(many)[row][row:])
        self.assertIn("above", words)
        self.assertIn("not", words)

    def test_a_nought_kept_out_of_lowest_terms_nowhere(self):
        word, lower, pivots = signs(as_matrix([[4, 0], [0, Fraction(1, 6)]]))
        self.assertEqual(lower, [[(1, 1), (0, 1)], [(0, 1), (1, 1)]])
        self.assertEqual(pivots, [as_pair(4), as_pair(Fraction(1, 6))])


if __name__ == "__main__":
    unittest.main()

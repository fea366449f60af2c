"""Points 2, 4, 11 and 12: what a matrix is, and what is reckoned place by place."""

import unittest
from fractions import Fraction

from echobound import matrices
from echobound.errors import NoFraction, NoMatrix
from echobound.fractions import is_fraction
from echobound.matrices import is_matrix, led, mirrored, product, scaled, shape, signs, solved, sum_of, unit
from tests.helper import (LONG, Stranger, as_matrix, as_pair, as_pairs, asked, chance,
                          check_interface, flipped, led_by, multiplied, no_fractions, no_lists, no_matrices,
                          other_kinds, refusal, refused_at, some_numbers, some_rows, unit_rows)

HALF = (1, 2)
SHAPES = [(1, 1), (1, 2), (2, 1), (1, 10), (10, 1), (2, 3), (3, 2), (4, 4), (10, 10), (7, 9)]
FIGURES = [1, 3, 40]


def some_matrices(seed):
    """Rows of numbers of each shape, with numbers of few and of many figures."""
    dice = chance(seed)
    return [[]] + [some_rows(dice, rows, columns, figures) for rows, columns in SHAPES for figures in FIGURES]


def numbers_of_many_figures():
    return [[Fraction(LONG, 3), Fraction(-1, LONG)], [Fraction(-LONG), Fraction(2, LONG + 1)]]


class IsMatrixTest(unittest.TestCase):
    def test_matrices(self):
        for rows in some_matrices(1):
            self.assertIs(is_matrix(as_matrix(rows)), True)
        self.assertIs(is_matrix([]), True)
        self.assertIs(is_matrix(as_matrix(numbers_of_many_figures())), True)
        self.assertIs(is_matrix(thing=[[HALF] * 10] * 10), True)

    def test_every_shape(self):
        for rows in range(0, 14):
            for columns in range(0, 14):
                wanted = rows == 0 or (rows <= 10 and 1 <= columns <= 10)
                self.assertIs(is_matrix([[HALF] * columns for _ in range(rows)]), wanted, (rows, columns))

    def test_no_matrices(self):
        for thing in no_matrices():
            self.assertIs(is_matrix(thing), False, thing)

    def test_other_kinds(self):
        for thing in [*other_kinds(), object(), Fraction(1), int, self, "a", [["ab"]], [[Stranger()]]]:
            if thing != [] or isinstance(thing, Stranger):
                self.assertIs(is_matrix(thing), False, thing)

    def test_rows_of_unlike_length(self):
        for lengths in [(1, 2), (2, 1), (3, 3, 2), (10, 10, 9), (9, 10), (1, 0), (0, 1), (0,), (0, 0)]:
            self.assertIs(is_matrix([[HALF] * length for length in lengths]), False, lengths)

    def test_one_place_amiss(self):
        for thing in no_fractions():
            for row in range(3):
                for column in range(2):
                    rows = [[HALF, HALF] for _ in range(3)]
                    rows[row][column] = thing
                    self.assertIs(is_matrix(rows), False, thing)

    def test_a_list_within_itself(self):
        thing = []
        thing.append(thing)
        self.assertIs(is_matrix(thing), False)

    def test_what_is_looked_at_stays(self):
        rows = [[HALF, (3, 1)], [(0, 1), (-5, 7)]]
        asked(self, is_matrix, rows)
        self.assertEqual(rows, [[HALF, (3, 1)], [(0, 1), (-5, 7)]])


class PlaceByPlaceTest(unittest.TestCase):
    def check_lowest(self, matrix):
        for row in matrix:
            self.assertIs(type(row), list)
            for place in row:
                self.assertTrue(is_fraction(place))

    def test_shape(self):
        self.assertEqual(shape([]), (0, 0))
        for rows, columns in SHAPES:
            told = asked(self, shape, [[HALF] * columns for _ in range(rows)])
            self.assertEqual(told, (rows, columns))
            self.assertIs(type(told), tuple)
        self.assertEqual(shape(matrix=[[HALF, HALF]]), (1, 2))

    def test_unit(self):
        self.assertEqual(unit(0), [])
        self.assertEqual(unit(2), [[(1, 1), (0, 1)], [(0, 1), (1, 1)]])
        for many in range(11):
            told = asked(self, unit, many)
            self.assertEqual(told, as_matrix(unit_rows(many)))
            self.assertTrue(is_matrix(told))
        self.assertEqual(unit(many=3), unit(3))

    def test_mirrored(self):
        self.assertEqual(mirrored([]), [])
        self.assertEqual(mirrored([[HALF, (3, 1)]]), [[HALF], [(3, 1)]])
        for rows in [*some_matrices(2), numbers_of_many_figures()]:
            told = asked(self, mirrored, as_matrix(rows))
            self.assertEqual(told, as_matrix(flipped(rows)))
            self.assertEqual(mirrored(told), as_matrix(rows))
        self.assertEqual(mirrored(matrix=[[HALF]]), [[HALF]])

    def test_sum_of(self):
        self.assertEqual(sum_of([], []), [])
        self.assertEqual(sum_of([[HALF, (1, 6)]], [[HALF, (1, 3)]]), [[(1, 1), HALF]])
        for one, other in zip(some_matrices(3), some_matrices(4)):
            told = asked(self, sum_of, as_matrix(one), as_matrix(other))
            wanted = [[x + y for x, y in zip(row, beside)] for row, beside in zip(one, other)]
            self.assertEqual(told, as_matrix(wanted))
            self.check_lowest(told)
            self.assertEqual(sum_of(other=as_matrix(other), one=as_matrix(one)), told)

    def test_sum_of_a_matrix_and_itself(self):
        one = [[HALF, (3, 1)]]
        self.assertEqual(asked(self, sum_of, one, one), [[(1, 1), (6, 1)]])

    def test_product(self):
        self.assertEqual(product([], []), [])
        self.assertEqual(product([[HALF, (3, 1)]], [[(4, 1)], [(1, 3)]]), [[(3, 1)]])
        self.assertEqual(product([[(4, 1)], [(1, 3)]], [[HALF, (3, 1)]]), [[(2, 1), (12, 1)], [(1, 6), (1, 1)]])
        dice = chance(5)
        for rows, inner in SHAPES:
            for columns in (1, 3, 10):
                for figures in FIGURES:
                    one = some_rows(dice, rows, inner, figures)
                    other = some_rows(dice, inner, columns, figures)
                    told = asked(self, product, as_matrix(one), as_matrix(other))
                    self.assertEqual(told, as_matrix(multiplied(one, other)))
                    self.check_lowest(told)
        self.assertEqual(product(other=[[HALF], [HALF]], one=[[HALF, HALF]]), [[HALF]])

    def test_product_of_a_matrix_and_itself_or_the_unit(self):
        rows = numbers_of_many_figures()
        matrix = as_matrix(rows)
        self.assertEqual(asked(self, product, matrix, matrix), as_matrix(multiplied(rows, rows)))
        self.assertEqual(product(unit(2), matrix), matrix)
        self.assertEqual(product(matrix, unit(2)), matrix)

    def test_scaled(self):
        self.assertEqual(scaled([], HALF), [])
        self.assertEqual(scaled([[HALF, (4, 3)]], (-3, 2)), [[(-3, 4), (-2, 1)]])
        for rows in some_matrices(6):
            for by in [Fraction(0), Fraction(1), Fraction(-1), Fraction(2, 3), Fraction(-LONG, 6)]:
                told = asked(self, scaled, as_matrix(rows), as_pair(by))
                self.assertEqual(told, as_matrix([[place * by for place in row] for row in rows]))
                self.check_lowest(told)
        self.assertEqual(scaled(one=HALF, matrix=[[HALF]]), [[(1, 4)]])

    def test_led(self):
        self.assertEqual(led([], []), [])
        self.assertEqual(led([[HALF, (3, 1)], [(0, 1), (-1, 3)]], [(2, 1), (1, 3)]), [(2, 1), (-1, 9)])
        dice = chance(7)
        for rows in some_matrices(8)[1:]:
            for figures in FIGURES:
                xs = some_numbers(dice, len(rows[0]), figures)
                told = asked(self, led, as_matrix(rows), as_pairs(xs))
                self.assertEqual(told, as_pairs(led_by(rows, xs)))
                self.check_lowest([told])
        self.assertEqual(led(xs=[HALF], matrix=[[HALF]]), [(1, 4)])

    def test_led_by_numbers_of_any_size(self):
        for figures in (399, 3999, 4400, 9000):
            far = 10 ** figures + 9
            rows = [[Fraction(far, far - 1), Fraction(1, 3)], [Fraction(-1, far), Fraction(far - 3)]]
            xs = [Fraction(far + 2, 7), Fraction(-5, far + 1)]
            told = led(as_matrix(rows), as_pairs(xs))
            self.assertTrue(told == as_pairs(led_by(rows, xs)))

    def test_changing_what_was_told_changes_no_later_answer(self):
        first = unit(3)
        first[0][0] = HALF
        first.append("more")
        self.assertEqual(unit(3), as_matrix(unit_rows(3)))
        matrix = [[HALF, HALF], [HALF, HALF]]
        told = mirrored(matrix)
        matrix[0][0] = (9, 1)
        self.assertEqual(told, [[HALF, HALF], [HALF, HALF]])

    def test_rows_that_are_the_same_list(self):
        row = [HALF, (1, 1)]
        told = asked(self, mirrored, [row, row])
        self.assertEqual(told, [[HALF, HALF], [(1, 1), (1, 1)]])
        self.assertEqual(asked(self, scaled, [row, row], (2, 1)), [[(1, 1), (2, 1)], [(1, 1), (2, 1)]])


SQUARE = [[HALF, (1, 1)], [(0, 1), (3, 1)]]
SYMMETRIC = [[(2, 1), HALF], [HALF, (3, 1)]]
LIST = [(1, 1), (2, 1)]
WIDE = [[HALF, HALF, HALF], [HALF, HALF, HALF]]
TALL = [[HALF, HALF], [HALF, HALF], [HALF, HALF]]
TAKES = [(shape, [SQUARE], (0,)), (mirrored, [SQUARE], (0,)), (sum_of, [SQUARE, SQUARE], (0, 1)),
         (product, [SQUARE, SQUARE], (0, 1)), (scaled, [SQUARE, HALF], (0,)), (led, [SQUARE, LIST], (0,)),
         (solved, [SQUARE, LIST], (0,)), (signs, [SYMMETRIC], (0,))]


class RefusedTest(unittest.TestCase):
    def test_what_is_no_matrix(self):
        for call, given, places in TAKES:
            call(*given)
            for at in places:
                refused_at(self, NoMatrix, call, given, at, no_matrices())

    def test_two_that_are_no_matrices(self):
        for call in (sum_of, product, led, solved, scaled):
            for thing in no_matrices():
                refusal(self, NoMatrix, call, thing, thing)
                refusal(self, NoMatrix, call, thing, "other")

    def test_no_matrix_ahead_of_no_fraction(self):
        for thing in no_matrices():
            for other in no_fractions():
                refusal(self, NoMatrix, scaled, thing, other)

    def test_scaled_by_what_is_no_fraction(self):
        for matrix in ([], [[HALF]], WIDE, as_matrix(numbers_of_many_figures())):
            refused_at(self, NoFraction, scaled, [matrix, HALF], 1, [*no_fractions(), *other_kinds()[:5], "x", matrix])

    def test_no_list(self):
        for call in (led, solved):
            refused_at(self, NoMatrix, call, [SQUARE, LIST], 1, no_lists(2))
            refused_at(self, NoMatrix, call, [[], []], 1, no_lists(0))
            refused_at(self, NoMatrix, call, [[[HALF]], [HALF]], 1, no_lists(1))
        refused_at(self, NoMatrix, led, [WIDE, [HALF] * 3], 1, [*no_lists(3), [HALF] * 2])
        refused_at(self, NoMatrix, led, [TALL, [HALF] * 2], 1, [*no_lists(2), [HALF] * 3])

    def test_no_number_for_unit(self):
        for thing in [-1, -2, 11, 12, 200, LONG, -LONG, "", "3", HALF, (3, 1), *other_kinds()]:
            refusal(self, NoMatrix, unit, thing)
            refusal(self, NoMatrix, unit, many=thing)

    def test_shapes_that_differ(self):
        for rows, columns in SHAPES:
            for more_rows, more_columns in SHAPES:
                one = [[HALF] * columns for _ in range(rows)]
                other = [[HALF] * more_columns for _ in range(more_rows)]
                if (rows, columns) != (more_rows, more_columns):
                    refusal(self, NoMatrix, sum_of, one, other)
                if columns != more_rows:
                    refusal(self, NoMatrix, product, one, other)
        for call in (sum_of, product):
            refusal(self, NoMatrix, call, [], [[HALF]])
            refusal(self, NoMatrix, call, [[HALF]], [])

    def test_not_square(self):
        for matrix in (WIDE, TALL, [[HALF, HALF]], [[HALF], [HALF]], [[HALF] * 10], [[HALF]] * 10):
            refusal(self, NoMatrix, signs, matrix)
            refusal(self, NoMatrix, solved, matrix, [HALF] * len(matrix))
            refusal(self, NoMatrix, solved, matrix, [HALF] * len(matrix[0]))

    def test_not_symmetric(self):
        refusal(self, NoMatrix, signs, [[HALF, (1, 1)], [(2, 1), HALF]])
        for row in range(4):
            for column in range(4):
                if row != column:
                    matrix = unit(4)
                    matrix[row][column] = (1, LONG)
                    refusal(self, NoMatrix, signs, matrix)


class InterfaceTest(unittest.TestCase):
    def test_names_and_arguments(self):
        check_interface(self, matrices, {
            "is_matrix": "(thing)", "shape": "(matrix)", "unit": "(many)", "mirrored": "(matrix)",
            "sum_of": "(one, other)", "product": "(one, other)", "scaled": "(matrix, one)", "led": "(matrix, xs)",
            "solved": "(matrix, right)", "signs": "(matrix)"})


if __name__ == "__main__":
    unittest.main()

"""Point 15: series, their product, response, answers, and where two responses part."""

import unittest
from fractions import Fraction

from echobound import series
from echobound.errors import NoSeries
from echobound.fractions import is_fraction
from echobound.series import answered, parted, product_of, response
from tests.helper import (LONG, as_pairs, asked, chance, check_interface, no_bottoms, no_series, other_kinds, refusal,
                          refused_at, some_number, some_numbers)

HALF = (1, 2)
LENGTHS = (0, 1, 2, 3, 7, 20)


def multiplied(one, other):
    """The product of two series of numbers, by the document's words."""
    if not one or not other:
        return []
    told = [Fraction(0)] * (len(one) + len(other) - 1)
    for at, number in enumerate(one):
        for behind, factor in enumerate(other):
            told[at + behind] += number * factor
    return told


def place(numbers, at):
    return numbers[at] if 0 <= at < len(numbers) else Fraction(0)


def responded(top, bottom, many):
    row = []
    for k in range(many):
        row.append((place(top, k) - sum(place(bottom, j) * row[k - j] for j in range(1, k + 1))) / bottom[0])
    return row


def answers(top, bottom, inputs):
    told = []
    for k in range(len(inputs)):
        came = sum((place(top, j) * place(inputs, k - j) for j in range(len(top))), Fraction(0))
        went = sum((bottom[j] * place(told, k - j) for j in range(1, len(bottom))), Fraction(0))
        told.append((came - went) / bottom[0])
    return told


def first_apart(one, other, many):
    """The first place below many at which two responses part, or None."""
    return next((k for k, (x, y) in enumerate(zip(responded(*one, many), responded(*other, many))) if x != y), None)


def some_bottom(dice, many, figures=1):
    bottom = some_numbers(dice, many, figures)
    while bottom[0] == 0:
        bottom[0] = some_number(dice, figures)
    return bottom


def tops(dice):
    """Tops of each length, noughts within and at the ends too."""
    told = [some_numbers(dice, many) for many in LENGTHS]
    noughts = [Fraction(0)] * 3
    told += [noughts, [*noughts, Fraction(2)], [Fraction(2), *noughts], [Fraction(1), *noughts, Fraction(-1, 3)],
             [Fraction(LONG, 3), Fraction(-1, LONG)]]
    return told


def bottoms(dice):
    told = [some_bottom(dice, many) for many in LENGTHS if many]
    noughts = [Fraction(0)] * 3
    told += [[Fraction(1)], [Fraction(-3, 2), *noughts], [Fraction(2), *noughts, Fraction(-1, 3)],
             [Fraction(1), *noughts, Fraction(1, 2), *noughts], [Fraction(LONG, 3), Fraction(-1, LONG)]]
    return told


class ProductTest(unittest.TestCase):
    def check(self, one, other):
        told = asked(self, product_of, as_pairs(one), as_pairs(other))
        self.assertIs(type(told), list)
        self.assertTrue(told == as_pairs(multiplied(one, other)))
        self.assertTrue(all(is_fraction(x) for x in told))

    def test_by_hand(self):
        self.assertEqual(product_of([(1, 1), HALF], [(2, 1), (0, 1), (4, 3)]),
                         [(2, 1), (1, 1), (4, 3), (2, 3)])
        self.assertEqual(product_of([(0, 1), (1, 1)], [(0, 1), (1, 1)]), [(0, 1), (0, 1), (1, 1)])
        self.assertEqual(product_of(other=[(3, 1)], one=[HALF]), [(3, 2)])

    def test_each_length(self):
        dice = chance(31)
        for one in tops(dice):
            for other in tops(dice):
                self.check(one, other)

    def test_nothing_is_the_product_with_nothing(self):
        for other in ([], [(0, 1)], [HALF], [HALF] * 200):
            self.assertEqual(asked(self, product_of, [], other), [])
            self.assertEqual(asked(self, product_of, other, []), [])

    def test_noughts_at_the_ends_stay(self):
        self.assertEqual(product_of([HALF, (0, 1)], [(2, 1), (0, 1), (0, 1)]), [(1, 1)] + [(0, 1)] * 3)
        self.assertEqual(product_of([(0, 1)], [(0, 1)]), [(0, 1)])

    def test_a_series_and_itself(self):
        one = [HALF, (1, 1)]
        self.assertEqual(asked(self, product_of, one, one), [(1, 4), (1, 1), (1, 1)])

    def test_two_hundred_places(self):
        dice = chance(32)
        self.check(some_numbers(dice, 200), some_numbers(dice, 200))
        self.check(some_numbers(dice, 200), some_numbers(dice, 3))
        self.check(some_numbers(dice, 1, 399), some_numbers(dice, 200, 399))


class ResponseTest(unittest.TestCase):
    def check(self, top, bottom, many):
        told = asked(self, response, as_pairs(top), as_pairs(bottom), many)
        self.assertIs(type(told), list)
        self.assertEqual(len(told), many)
        self.assertTrue(told == as_pairs(responded(top, bottom, many)))
        back = product_of(as_pairs(bottom), told)
        self.assertTrue(back[:many] == as_pairs([place(top, k) for k in range(many)]))

    def test_by_hand(self):
        self.assertEqual(response([(1, 1)], [(1, 1), (-1, 2)], 4), [(1, 1), (1, 2), (1, 4), (1, 8)])
        self.assertEqual(response([(3, 1), (1, 1)], [(2, 1)], 4), [(3, 2), (1, 2), (0, 1), (0, 1)])
        self.assertEqual(response([], [(2, 1), (5, 1)], 3), [(0, 1)] * 3)
        self.assertEqual(response(many=2, bottom=[(-1, 3)], top=[(1, 1)]), [(-3, 1), (0, 1)])

    def test_each_length(self):
        dice = chance(33)
        for top in tops(dice):
            for bottom in bottoms(dice):
                for many in (0, 1, 2, 9):
                    self.check(top, bottom, many)

    def test_two_hundred_places(self):
        dice = chance(34)
        self.check([Fraction(1)], [Fraction(1), Fraction(-1, 2), Fraction(1, 3)], 200)
        self.check(some_numbers(dice, 200), [Fraction(-2, 3)], 200)
        self.check(some_numbers(dice, 200), [Fraction(1)] + [Fraction(0)] * 198 + [Fraction(1, 2)], 200)
        self.check(some_numbers(dice, 200, 399), [Fraction(3)], 200)

    def test_none_and_one_place(self):
        self.assertEqual(response([HALF], [HALF], 0), [])
        self.assertEqual(response([], [HALF], 0), [])
        self.assertEqual(response([HALF], [HALF], 1), [(1, 1)])


class AnsweredTest(unittest.TestCase):
    def check(self, top, bottom, inputs):
        told = asked(self, answered, as_pairs(top), as_pairs(bottom), as_pairs(inputs))
        self.assertIs(type(told), list)
        self.assertTrue(told == as_pairs(answers(top, bottom, inputs)))

    def test_by_hand(self):
        self.assertEqual(answered([(1, 1)], [(1, 1), (-1, 2)], [(4, 1), (0, 1), (2, 1)]), [(4, 1), (2, 1), (3, 1)])
        self.assertEqual(answered([(1, 1), (-1, 1)], [(2, 1)], [(1, 1), (5, 1), (5, 1)]), [(1, 2), (2, 1), (0, 1)])
        self.assertEqual(answered(inputs=[(6, 1)], bottom=[(-3, 1)], top=[(1, 1)]), [(-2, 1)])

    def test_each_length(self):
        dice = chance(35)
        for top in tops(dice):
            for bottom in bottoms(dice):
                for many in (0, 1, 2, 9):
                    self.check(top, bottom, some_numbers(dice, many))

    def test_no_numbers(self):
        self.assertEqual(answered([HALF], [HALF], []), [])
        self.assertEqual(answered([], [HALF], []), [])

    def test_a_one_and_noughts_are_answered_by_the_response(self):
        dice = chance(36)
        for top in tops(dice):
            for bottom in bottoms(dice):
                self.assertEqual(answered(as_pairs(top), as_pairs(bottom), [(1, 1)] + [(0, 1)] * 8),
                                 response(as_pairs(top), as_pairs(bottom), 9))

    def test_two_hundred_numbers(self):
        dice = chance(37)
        self.check(some_numbers(dice, 5), [Fraction(1), Fraction(-1, 2), Fraction(1, 4)], some_numbers(dice, 200))
        self.check(some_numbers(dice, 200), [Fraction(2)], some_numbers(dice, 200))


class PartedTest(unittest.TestCase):
    def check(self, one, other, wanted):
        given = as_pairs(one[0]), as_pairs(one[1]), as_pairs(other[0]), as_pairs(other[1])
        self.assertEqual(asked(self, parted, *given), wanted)
        self.assertEqual(parted(given[2], given[3], given[0], given[1]), wanted)
        if wanted is not None:
            self.assertIs(type(parted(*given)), int)
        many = len(one[0]) + len(one[1]) + len(other[0]) + len(other[1]) + 2
        self.assertEqual(first_apart(one, other, many), wanted)

    def test_by_hand(self):
        ones = [(1, 1)] * 5
        self.assertEqual(parted([(1, 1)], [(1, 1), (-1, 1)], ones, [(1, 1)]), 5)
        self.assertIsNone(parted([(1, 1)], [(2, 1)], [HALF], [(1, 1)]))
        self.assertEqual(parted([], [(1, 1)], [HALF], [(1, 1)]), 0)
        self.assertIsNone(parted([], [(1, 1)], [], [(5, 1), (1, 1)]))
        self.assertIsNone(parted([], [(1, 1)], [(0, 1), (0, 1)], [(5, 1), (1, 1)]))
        self.assertEqual(parted(other_bottom=[(1, 1)], other_top=[(1, 1)], bottom=[(1, 1)], top=[(1, 1), HALF]), 1)

    def test_any_two(self):
        dice = chance(38)
        for top in tops(dice):
            for bottom in bottoms(dice):
                other = some_numbers(dice, dice.randint(0, 4)), some_bottom(dice, dice.randint(1, 4))
                many = len(top) + len(bottom) + 12
                self.check((top, bottom), other, first_apart((top, bottom), other, many))

    def test_never(self):
        dice = chance(39)
        for top in tops(dice):
            for bottom in bottoms(dice):
                self.check((top, bottom), (top, bottom), None)
                for by in ([Fraction(3, 2)], [Fraction(-1), Fraction(1, 2), Fraction(4)]):
                    self.check((top, bottom), (multiplied(top, by), multiplied(bottom, by)), None)
                self.check((top, bottom), (top + [Fraction(0)] * 3, bottom + [Fraction(0)]), None)

    def test_at_each_place(self):
        dice = chance(40)
        for bottom in bottoms(dice):
            for at in range(12):
                top = some_numbers(dice, 5)
                other = [place(top, k) + int(k == at) for k in range(max(5, at + 1))]
                self.check((top, bottom), (other, bottom), at)

    def test_far_behind_the_ends(self):
        for many in (2, 10, 150, 199):
            ones = [Fraction(1)] * many
            self.check(([Fraction(1)], [Fraction(1), Fraction(-1)]), (ones, [Fraction(1)]), many)
        # The tops and bottoms end at place 4, but the responses part only at the last place where they can.
        one = [Fraction(1), Fraction(2), Fraction(0), Fraction(1)], [Fraction(1), Fraction(1), Fraction(3)]
        first = responded(*one, 20)
        bottom = [Fraction(1), Fraction(-2), Fraction(1, 2), Fraction(5)]
        for many in (1, 2, 3, 4):
            top = multiplied(bottom, first)[:many]
            self.check(one, (top, bottom), first_apart(one, (top, bottom), 20))

    def test_late_by_bottoms(self):
        for many in (1, 5, 60):
            late = [Fraction(1)] + [Fraction(0)] * (many - 1) + [Fraction(1, 3)]
            self.check(([Fraction(2)], [Fraction(1)]), ([Fraction(2)], late), many)

    def test_numbers_of_many_figures(self):
        far = Fraction(LONG, 3)
        self.check(([far], [1 / far, Fraction(1)]), ([far * far], [Fraction(1), far]), None)
        self.check(([far], [1 / far, Fraction(1)]), ([far * far, Fraction(1, LONG)], [Fraction(1), far]), 1)


def no_counts():
    return [-1, -200, 201, 1000, LONG, -LONG, "", "3", HALF, (3, 1), *other_kinds()]


SERIES = [(1, 1), HALF]


class RefusedTest(unittest.TestCase):
    def test_product_of(self):
        for at in (0, 1):
            refused_at(self, NoSeries, product_of, [SERIES, SERIES], at, no_series())
            refused_at(self, NoSeries, product_of, [[], []], at, no_series())

    def test_response(self):
        refused_at(self, NoSeries, response, [SERIES, SERIES, 3], 0, no_series())
        refused_at(self, NoSeries, response, [SERIES, SERIES, 3], 1, no_bottoms())
        refused_at(self, NoSeries, response, [SERIES, SERIES, 3], 2, no_counts())
        refused_at(self, NoSeries, response, [[], SERIES, 0], 0, no_series())
        refused_at(self, NoSeries, response, [[], SERIES, 0], 1, no_bottoms())

    def test_answered(self):
        for inputs in ([], SERIES):
            refused_at(self, NoSeries, answered, [SERIES, SERIES, inputs], 0, no_series())
            refused_at(self, NoSeries, answered, [SERIES, SERIES, inputs], 1, no_bottoms())
            refused_at(self, NoSeries, answered, [SERIES, SERIES, inputs], 2, no_series())

    def test_parted(self):
        given = [SERIES, SERIES, SERIES, SERIES]
        for at in (0, 2):
            refused_at(self, NoSeries, parted, given, at, no_series())
        for at in (1, 3):
            refused_at(self, NoSeries, parted, given, at, no_bottoms())
        # Both part at once at the first place, yet what is amiss behind it is refused.
        refused_at(self, NoSeries, parted, [[], SERIES, SERIES, SERIES], 2, no_series())
        refused_at(self, NoSeries, parted, [[], SERIES, SERIES, SERIES], 3, no_bottoms())

    def test_two_amiss(self):
        for thing in no_series():
            refusal(self, NoSeries, product_of, thing, thing)
            refusal(self, NoSeries, response, thing, [], 201)
            refusal(self, NoSeries, response, thing, thing, thing)
            refusal(self, NoSeries, answered, thing, thing, thing)
            refusal(self, NoSeries, answered, SERIES, [(0, 1)], thing)
            refusal(self, NoSeries, parted, thing, thing, thing, thing)

    def test_the_ends_of_the_number(self):
        self.assertEqual(len(response(SERIES, SERIES, 0)), 0)
        self.assertEqual(len(response(SERIES, SERIES, 200)), 200)


class InterfaceTest(unittest.TestCase):
    def test_names_and_arguments(self):
        check_interface(self, series, {
            "product_of": "(one, other)", "response": "(top, bottom, many)", "answered": "(top, bottom, inputs)",
            "parted": "(top, bottom, other_top, other_bottom)"})


if __name__ == "__main__":
    unittest.main()

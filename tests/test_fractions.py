"""Points 2 and 5: whole numbers and fractions."""

import inspect
import unittest
from fractions import Fraction

from echobound import fractions
from echobound.errors import NoFraction
from echobound.fractions import (divided, fraction, is_fraction, is_whole, minus, plus, size_of, times, two_to,
                                 under)
from tests.helper import as_number, as_pair, other_kinds, refusal

LONG = 10 ** 399 + 7
WHOLES = [0, 1, -1, 2, -2, 3, 6, -6, 12, -35, 97, 2 ** 63, -2 ** 64, LONG, -LONG, 6 * LONG]
NUMBERS = [Fraction(0), Fraction(1), Fraction(-1), Fraction(1, 2), Fraction(-1, 2), Fraction(1, 3), Fraction(2, 3),
           Fraction(-7, 6), Fraction(5, 4), Fraction(3, 10), Fraction(-9, 2), Fraction(41), Fraction(-30),
           Fraction(2 ** 64, 3), Fraction(-3, 2 ** 65), Fraction(LONG, 2 ** 200), Fraction(-6, LONG)]


class KindsTest(unittest.TestCase):
    def test_is_whole(self):
        for whole in WHOLES:
            self.assertIs(is_whole(whole), True)
        for thing in [*other_kinds(), "", "1", "-3/4", object(), Fraction(1), int, self]:
            self.assertIs(is_whole(thing), False, thing)

    def test_is_whole_of_truths(self):
        self.assertIs(is_whole(True), False)
        self.assertIs(is_whole(False), False)

    def test_is_fraction(self):
        for number in NUMBERS:
            self.assertIs(is_fraction(as_pair(number)), True, number)
        for pair in [(0, 1), (-3, 4), (7, 1), (1, 6 * LONG), (LONG, LONG + 1)]:
            self.assertIs(is_fraction(pair), True, pair)

    def test_pairs_not_in_lowest_terms(self):
        for pair in [(2, 4), (-2, 4), (0, 2), (6, 3), (5, 5), (-7, 7), (0, LONG), (3 * LONG, 6), (LONG, 5 * LONG)]:
            self.assertIs(is_fraction(pair), False, pair)

    def test_bottoms_below_one(self):
        for pair in [(1, 0), (0, 0), (-1, 0), (1, -1), (-3, -4), (3, -4), (0, -1), (1, -LONG)]:
            self.assertIs(is_fraction(pair), False, pair)

    def test_truths_in_a_pair(self):
        for pair in [(True, 1), (1, True), (False, 1), (True, True), (True, 2), (3, True)]:
            self.assertIs(is_fraction(pair), False, pair)

    def test_no_pair_of_wholes(self):
        for thing in [1, 0, "", "12", "1/2", [1, 2], [3, 1], (), (1,), (1, 2, 3), (3, 1, 1), None, True, False, {},
                      {1: 2, 3: 4}, {1, 2}, b"ab", Fraction(1, 2), object(), ("1", "2"), (None, 1), (1, None),
                      ([1], 2), ((1, 2), (1, 2)), (1, "2"), ((1, 2),), (1, (2,))]:
            self.assertIs(is_fraction(thing), False, thing)

    def test_other_kinds_inside_a_pair(self):
        for thing in other_kinds():
            self.assertIs(is_fraction((thing, 1)), False, thing)
            self.assertIs(is_fraction((1, thing)), False, thing)


class MadeTest(unittest.TestCase):
    def test_made_in_lowest_terms(self):
        for top in WHOLES:
            for bottom in WHOLES:
                if bottom != 0:
                    made = fraction(top, bottom)
                    self.assertEqual(made, as_pair(Fraction(top, bottom)), (top, bottom))
                    self.assertIs(type(made), tuple)
                    self.assertTrue(is_fraction(made))

    def test_examples(self):
        self.assertEqual(fraction(6, -4), (-3, 2))
        self.assertEqual(fraction(-6, -4), (3, 2))
        self.assertEqual(fraction(0, -9), (0, 1))
        self.assertEqual(fraction(21, 7), (3, 1))

    def test_bottom_left_out(self):
        for top in WHOLES:
            self.assertEqual(fraction(top), (top, 1))

    def test_by_name(self):
        self.assertEqual(fraction(bottom=-8, top=6), (-3, 4))
        self.assertEqual(fraction(top=6), (6, 1))
        self.assertEqual(fraction(6, bottom=8), (3, 4))

    def test_bottom_of_nought(self):
        for top in [*WHOLES, *other_kinds()]:
            refusal(self, NoFraction, fraction, top, 0)

    def test_other_kinds_refused(self):
        for thing in [*other_kinds(), "1", ""]:
            refusal(self, NoFraction, fraction, thing)
            refusal(self, NoFraction, fraction, thing, 2)
            refusal(self, NoFraction, fraction, 1, thing)
            refusal(self, NoFraction, fraction, top=1, bottom=thing)
            for other in [*other_kinds(), "2"]:
                refusal(self, NoFraction, fraction, thing, other)

    def test_what_is_handed_in_stays(self):
        given = [1]
        refusal(self, NoFraction, fraction, given, given)
        self.assertEqual(given, [1])


class ReckonedTest(unittest.TestCase):
    def check_pairs(self, call, expected):
        for one in NUMBERS:
            for other in NUMBERS:
                told = call(as_pair(one), as_pair(other))
                self.assertEqual(told, as_pair(expected(one, other)), (one, other))
                self.assertIs(type(told), tuple)
                self.assertEqual(call(one=as_pair(one), other=as_pair(other)), told)
                self.assertEqual(call(other=as_pair(other), one=as_pair(one)), told)

    def test_sums(self):
        self.check_pairs(plus, lambda one, other: one + other)
        self.assertEqual(plus((1, 6), (1, 3)), (1, 2))
        self.assertEqual(plus((1, 2), (-1, 2)), (0, 1))

    def test_differences(self):
        self.check_pairs(minus, lambda one, other: one - other)
        self.assertEqual(minus((1, 6), (2, 3)), (-1, 2))

    def test_products(self):
        self.check_pairs(times, lambda one, other: one * other)
        self.assertEqual(times((2, 3), (3, 2)), (1, 1))

    def test_quotients(self):
        for one in NUMBERS:
            for other in NUMBERS:
                if other != 0:
                    told = divided(as_pair(one), as_pair(other))
                    self.assertEqual(told, as_pair(one / other))
                    self.assertEqual(divided(other=as_pair(other), one=as_pair(one)), told)
        self.assertEqual(divided((1, 2), (-3, 4)), (-2, 3))

    def test_quotient_by_nought(self):
        for one in NUMBERS:
            refusal(self, NoFraction, divided, as_pair(one), (0, 1))
            refusal(self, NoFraction, divided, other=(0, 1), one=as_pair(one))

    def test_sizes(self):
        for one in NUMBERS:
            self.assertEqual(size_of(as_pair(one)), as_pair(abs(one)))
            self.assertEqual(size_of(one=as_pair(one)), as_pair(abs(one)))

    def test_order(self):
        for one in NUMBERS:
            for other in NUMBERS:
                self.assertIs(under(as_pair(one), as_pair(other)), one < other, (one, other))
                self.assertIs(under(other=as_pair(other), one=as_pair(one)), one < other)

    def test_the_same_answer_each_time(self):
        one = (LONG, 2 ** 200)
        self.assertEqual(plus(one, one), plus(one, one))
        self.assertEqual(one, (LONG, 2 ** 200))


class PowersTest(unittest.TestCase):
    def test_every_power(self):
        for many in range(-400, 401):
            self.assertEqual(as_number(two_to(many)), Fraction(2) ** many)
            self.assertTrue(is_fraction(two_to(many)))

    def test_examples(self):
        self.assertEqual(two_to(-3), (1, 8))
        self.assertEqual(two_to(-400), (1, 2 ** 400))
        self.assertEqual(two_to(-1), (1, 2))
        self.assertEqual(two_to(0), (1, 1))
        self.assertEqual(two_to(1), (2, 1))
        self.assertEqual(two_to(many=400), (2 ** 400, 1))

    def test_beyond(self):
        for many in (401, -401, 402, 10 ** 9, -10 ** 9, LONG, -LONG):
            refusal(self, NoFraction, two_to, many)

    def test_other_kinds(self):
        for thing in [*other_kinds(), "", "3"]:
            refusal(self, NoFraction, two_to, thing)
            refusal(self, NoFraction, two_to, many=thing)


class InterfaceTest(unittest.TestCase):
    def test_names_and_arguments(self):
        wanted = {"is_whole": "(thing)", "is_fraction": "(thing)", "fraction": "(top, bottom=1)",
                  "plus": "(one, other)", "minus": "(one, other)", "times": "(one, other)",
                  "divided": "(one, other)", "size_of": "(one)", "two_to": "(many)", "under": "(one, other)"}
        for name, arguments in wanted.items():
            made = getattr(fractions, name)
            self.assertEqual(str(inspect.signature(made)), arguments)
            self.assertEqual(made.__module__, "echobound.fractions")


if __name__ == "__main__":
    unittest.main()

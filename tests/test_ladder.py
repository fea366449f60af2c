"""Point 16: ladders, and lists raised from rungs."""

import unittest
from fractions import Fraction

from echobound import ladder as ladder_module
from echobound.errors import NoSeries
from echobound.fractions import is_fraction
from echobound.ladder import ladder, raised
from tests.helper import (LONG, as_number, as_pairs, asked, chance, check_interface, no_bottoms, no_series, refusal,
                          refused_at, some_number, some_numbers)

HALF = (1, 2)


def climbed_down(bottom):
    """The ladder of a bottom of numbers, by the document's words."""
    a = [number / bottom[0] for number in bottom]
    ks = []
    while len(a) > 1:
        k, m = a[-1], len(a) - 1
        if abs(k) >= 1:
            return ("out", a, ks)
        ks = [k] + ks
        a = [(a[i] - k * a[m - i]) / (1 - k * k) for i in range(m)]
    return ("in", ks)


def climbed_up(rest, ks):
    a = list(rest)
    for k in ks:
        m = len(a) - 1
        a = [(a[i] if i <= m else 0) + k * (a[m + 1 - i] if i > 0 else 0) for i in range(m + 2)]
    return a


def below_one(dice, figures=1):
    """A number of a size below 1."""
    bottom = dice.randint(1, 10 ** figures)
    return Fraction(dice.randint(1 - bottom, bottom - 1), bottom)


class LadderTest(unittest.TestCase):
    def check(self, bottom):
        told = asked(self, ladder, as_pairs(bottom))
        wanted = climbed_down(bottom)
        self.assertIs(type(told), tuple)
        self.assertEqual(told[0], wanted[0])
        self.assertTrue(told == (wanted[0], *[as_pairs(part) for part in wanted[1:]]))
        for part in told[1:]:
            self.assertIs(type(part), list)
            self.assertTrue(all(is_fraction(x) for x in part))
        over_first = as_pairs([number / bottom[0] for number in bottom])
        rest = [(1, 1)] if told[0] == "in" else told[1]
        self.assertTrue(raised(rest, told[-1]) == over_first)
        self.assertTrue(all(abs(as_number(k)) < 1 for k in told[-1]))
        if told[0] == "out":
            self.assertEqual(rest[0], (1, 1))
            self.assertGreater(len(rest), 1)
            self.assertGreaterEqual(abs(as_number(rest[-1])), 1)
        return told

    def test_the_document_s_example(self):
        self.assertEqual(ladder([(1, 1), (1, 2), (1, 4)]), ("in", [(2, 5), (1, 4)]))
        self.assertEqual(ladder(bottom=[(1, 1), (1, 2), (1, 4)]), ("in", [(2, 5), (1, 4)]))

    def test_by_hand(self):
        self.assertEqual(ladder([(5, 3)]), ("in", []))
        self.assertEqual(ladder([(-5, 3)]), ("in", []))
        self.assertEqual(ladder([(2, 1), (1, 1)]), ("in", [HALF]))
        self.assertEqual(ladder([(-2, 1), (1, 1)]), ("in", [(-1, 2)]))
        self.assertEqual(ladder([(1, 1), (1, 1)]), ("out", [(1, 1), (1, 1)], []))
        self.assertEqual(ladder([(2, 1), (-2, 1)]), ("out", [(1, 1), (-1, 1)], []))
        self.assertEqual(ladder([(1, 1), (-3, 1)]), ("out", [(1, 1), (-3, 1)], []))
        self.assertEqual(ladder([(1, 1), (3, 1), HALF]), ("out", [(1, 1), (2, 1)], [HALF]))
        self.assertEqual(ladder([(4, 1), (0, 1), (0, 1)]), ("in", [(0, 1), (0, 1)]))

    def test_any_bottom(self):
        dice = chance(41)
        words = []
        for many in range(1, 9):
            for _ in range(40):
                bottom = some_numbers(dice, many)
                bottom[0] = bottom[0] or Fraction(-1, 2)
                words.append(self.check(bottom)[0])
        self.assertIn("in", words)
        self.assertIn("out", words)

    def test_in_with_the_rungs_it_was_raised_by(self):
        dice = chance(42)
        for many in range(0, 9):
            for first in (Fraction(1), Fraction(-1), Fraction(7, 3), Fraction(-1, 9)):
                for figures in (1, 3, 20):
                    ks = [below_one(dice, figures) for _ in range(many)]
                    bottom = [first * number for number in climbed_up([Fraction(1)], ks)]
                    self.assertEqual(self.check(bottom), ("in", as_pairs(ks)))

    def test_out_with_the_rungs_it_was_raised_by(self):
        dice = chance(43)
        for many in range(0, 6):
            for last in (Fraction(1), Fraction(-1), Fraction(8, 7), Fraction(-LONG, LONG - 1), Fraction(-4)):
                for more in range(0, 4):
                    rest = [Fraction(1), *some_numbers(dice, more), last]
                    ks = [below_one(dice) for _ in range(many)]
                    for first in (Fraction(1), Fraction(-2, 5)):
                        bottom = [first * number for number in climbed_up(rest, ks)]
                        self.assertEqual(self.check(bottom), ("out", as_pairs(rest), as_pairs(ks)))

    def test_a_size_just_below_and_just_above_one(self):
        tiny = Fraction(1, LONG)
        for last, word in ((1 - tiny, "in"), (tiny - 1, "in"), (1 + tiny, "out"), (-1 - tiny, "out"),
                           (Fraction(1), "out"), (Fraction(-1), "out")):
            self.assertEqual(self.check([Fraction(1), last])[0], word)
            self.assertEqual(self.check([Fraction(-3), -3 * last])[0], word)

    def test_noughts_at_the_end(self):
        dice = chance(44)
        for noughts in (1, 2, 5):
            told = self.check([Fraction(1), Fraction(1, 2), Fraction(1, 4)] + [Fraction(0)] * noughts)
            self.assertEqual(told, ("in", [(2, 5), (1, 4)] + [(0, 1)] * noughts))
            self.check([some_number(dice) + 10, *some_numbers(dice, 3)] + [Fraction(0)] * noughts)
        self.assertEqual(self.check([Fraction(1), Fraction(2), Fraction(0)]),
                         ("out", [(1, 1), (2, 1)], [(0, 1)]))

    def test_two_hundred_places(self):
        dice = chance(45)
        ks = [below_one(dice) for _ in range(199)]
        bottom = raised([(1, 1)], as_pairs(ks))
        self.assertTrue(ladder(bottom) == ("in", as_pairs(ks)))
        self.assertEqual(ladder([(3, 1)] + [(0, 1)] * 199), ("in", [(0, 1)] * 199))

    def test_numbers_of_many_figures(self):
        dice = chance(46)
        for many in (2, 3, 4):
            self.check([Fraction(LONG, 7)] + some_numbers(dice, many - 1, 100))
        self.check([Fraction(LONG), Fraction(1, LONG + 1)])
        self.check([Fraction(1, LONG), Fraction(LONG)])

    def test_many_numbers_of_many_figures(self):
        dice = chance(47)
        for many in (60, 120, 200):
            bottom = some_numbers(dice, many, 399)
            bottom[-1] = 2 * bottom[0]
            told = self.check(bottom)
            self.assertEqual((told[0], told[2]), ("out", []))
        # Raised by one rung, so that one step down comes first.
        rest = [Fraction(1), *some_numbers(dice, 58, 250), Fraction(-9, 8)]
        bottom = climbed_up(rest, [Fraction(1, 3)])
        self.assertTrue(self.check(bottom) == ("out", as_pairs(rest), [(1, 3)]))

    def test_few_numbers_of_very_many_figures(self):
        for first in (Fraction(1), Fraction(-2, 3)):
            bottom = [first, Fraction(1, 10 ** 7000 + 1), Fraction(-1, 10 ** 7000 + 3)]
            self.assertEqual(self.check(bottom)[0], "in")


class RaisedTest(unittest.TestCase):
    def check(self, rest, ks):
        told = asked(self, raised, as_pairs(rest), as_pairs(ks))
        self.assertIs(type(told), list)
        self.assertEqual(len(told), len(rest) + len(ks))
        self.assertTrue(told == as_pairs(climbed_up(rest, ks)))

    def test_by_hand(self):
        self.assertEqual(raised([(1, 1)], [(2, 5), (1, 4)]), [(1, 1), (1, 2), (1, 4)])
        self.assertEqual(raised([(3, 1)], []), [(3, 1)])
        self.assertEqual(raised([(2, 1), (1, 1)], [(1, 2)]), [(2, 1), (3, 2), (1, 1)])
        self.assertEqual(raised(ks=[(-3, 1)], rest=[(0, 1)]), [(0, 1), (0, 1)])
        self.assertEqual(raised([(1, 1)], [(2, 1)]), [(1, 1), (2, 1)])

    def test_any_list(self):
        dice = chance(48)
        for many in (1, 2, 3, 6):
            for more in range(0, 6):
                for figures in (1, 3, 30):
                    self.check(some_numbers(dice, many, figures), some_numbers(dice, more, figures))
        self.check([Fraction(0)] * 3, [Fraction(1, 2)] * 3)
        self.check([Fraction(-LONG, 3), Fraction(1, LONG)], [Fraction(LONG, 2), Fraction(-1)])

    def test_noughts_as_rungs(self):
        self.check([Fraction(2), Fraction(1)], [Fraction(0)] * 4)

    def test_two_hundred(self):
        dice = chance(49)
        self.check([Fraction(1)], some_numbers(dice, 200))
        self.check(some_numbers(dice, 200), [])
        self.check(some_numbers(dice, 200), some_numbers(dice, 5))
        self.check(some_numbers(dice, 200, 399), [])
        self.check(some_numbers(dice, 200, 399), some_numbers(dice, 1, 399))

    def test_what_was_handed_in_is_not_what_is_told(self):
        rest = [HALF]
        told = raised(rest, [])
        told.append(HALF)
        self.assertEqual(rest, [HALF])


class RefusedTest(unittest.TestCase):
    def test_ladder(self):
        refused_at(self, NoSeries, ladder, [[HALF]], 0, no_bottoms())

    def test_raised(self):
        for ks in ([], [HALF]):
            refused_at(self, NoSeries, raised, [[HALF], ks], 0, [*no_series(), []])
        for rest in ([HALF], [HALF, HALF]):
            refused_at(self, NoSeries, raised, [rest, [HALF]], 1, no_series())

    def test_two_amiss(self):
        for thing in no_series():
            refusal(self, NoSeries, raised, thing, thing)
            refusal(self, NoSeries, raised, [], thing)

    def test_what_stands_at_the_end_of_a_long_list(self):
        for thing in (None, (2, 4), HALF[0]):
            refusal(self, NoSeries, ladder, [(1, 1), (5, 1), *[HALF] * 50, thing])
            refusal(self, NoSeries, raised, [(1, 1)], [*[HALF] * 50, thing])


class InterfaceTest(unittest.TestCase):
    def test_names_and_arguments(self):
        check_interface(self, ladder_module, {"ladder": "(bottom)", "raised": "(rest, ks)"})


if __name__ == "__main__":
    unittest.main()

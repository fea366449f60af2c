"""Points 2, 4, 52, 53 and 56: words with a given sum, and the nearest still pair."""

import itertools
import unittest
from fractions import Fraction

from echobound import choices
from echobound.choices import fitted, nearest_still
from echobound.errors import NoChoice
from echobound.ladder import ladder
from tests.helper import (LONG, Stranger, as_number, as_pair, as_pairs, asked, chance, check_interface, no_fractions,
                          no_series, other_kinds, refusal, refused_at)


def floors(values):
    return sum(value.numerator // value.denominator for value in values)


class FittedTest(unittest.TestCase):
    def check(self, values, total):
        values = [Fraction(value) for value in values]
        told = asked(self, fitted, as_pairs(values), total)
        self.assertEqual([type(part) for part in told], [list, tuple])
        words, price = told[0], as_number(told[1])
        self.assertEqual(as_pair(price), told[1])
        self.assertEqual((len(words), sum(words)), (len(values), total))
        for value, word in zip(values, words):
            self.assertIs(type(word), int)
            self.assertGreaterEqual(abs(value - (word + 1)) - abs(value - word), price)
            self.assertGreaterEqual(abs(value - (word - 1)) - abs(value - word), -price)
        return told

    def check_totals(self, values):
        first = floors([Fraction(value) for value in values])
        for more in (0, 1, -1, 2, -2, len(values) - 1, len(values), len(values) + 1, 99, 100, -99, -100):
            self.check(values, first + more)

    def test_none(self):
        words, price = self.check([], 0)
        self.assertEqual(words, [])
        for total in (1, -1, 100, -100, 5):
            refusal(self, NoChoice, fitted, [], total)

    def test_by_hand(self):
        self.assertEqual(self.check([Fraction(1, 4), Fraction(3, 4)], 1)[0], [0, 1])
        self.assertEqual(self.check([Fraction(-1, 4), Fraction(-3, 4)], -1)[0], [0, -1])
        self.assertEqual(self.check([Fraction(1, 3), Fraction(1, 2), Fraction(2, 3)], 2)[0], [0, 1, 1])
        self.assertEqual(self.check([7], 7)[0], [7])

    def test_one(self):
        for value in (0, 5, -5, Fraction(1, 2), Fraction(-1, 2), Fraction(7, 3), Fraction(-7, 3), LONG, -LONG,
                      Fraction(1, LONG)):
            self.check_totals([value])

    def test_whole_ones_halves_and_many_alike(self):
        for values in ([1, 2, 3], [0, 0, 0, 0], [-1, -2], [Fraction(1, 2)] * 5, [Fraction(-1, 2)] * 4,
                       [Fraction(5, 2), Fraction(-5, 2), 0], [Fraction(1, 3)] * 40, [Fraction(-2, 3)] * 40, [7] * 40,
                       [Fraction(1, 2)] * 20 + [3] * 20):
            self.check_totals(values)

    def test_forty(self):
        dice = chance(521)
        for figures in (1, 2, 20):
            values = [Fraction(dice.randint(-10 ** figures, 10 ** figures), dice.randint(1, 10 ** figures))
                      for _ in range(40)]
            self.check_totals(values)

    def test_long_fractions(self):
        dice = chance(522)
        self.check_totals([Fraction(dice.randint(-LONG, LONG), dice.randint(1, LONG)) for _ in range(9)])
        self.check_totals([Fraction(dice.randint(-LONG, LONG), dice.randint(1, 99)) for _ in range(40)])

    def test_no_other_words_are_nearer(self):
        dice = chance(523)
        for _ in range(60):
            values = [Fraction(dice.randint(-9, 9), dice.randint(1, 4)) for _ in range(dice.randint(1, 3))]
            total = floors(values) + dice.randint(-3, len(values) + 3)
            words = self.check(values, total)[0]
            off = sum(abs(value - word) for value, word in zip(values, words))
            ranges = [range(value.numerator // value.denominator - 7, value.numerator // value.denominator + 9)
                      for value in values]
            for others in itertools.product(*ranges):
                if sum(others) == total:
                    self.assertGreaterEqual(sum(abs(value - word) for value, word in zip(values, others)), off)

    def test_no_choice(self):
        half = (1, 2)
        # What is no list of fractions, those with one thing amiss among them.
        refused_at(self, NoChoice, fitted, [[half, half], 0], 0, [*no_series(), (), ((1, 2), (1, 2)), [half] * 41])
        refused_at(self, NoChoice, fitted, [[half, half], 0], 1, [*other_kinds(), "", "0", (0, 1), half, Fraction(0)])
        for values, first in (([half], 0), ([(7, 2), (-7, 2)], -1), ([(5, 1)] * 40, 200)):
            for more in (101, -101, 102, 10 ** 30, -10 ** 30):
                refusal(self, NoChoice, fitted, values, first + more)
                refusal(self, NoChoice, fitted, total=first + more, values=values)
            for more in (100, -100):
                self.assertEqual(sum(fitted(values, first + more)[0]), first + more)
        refusal(self, NoChoice, fitted, [half] * 41, 20)
        self.assertEqual(fitted(total=0, values=[half]), fitted([half], 0))


def is_still(b, c, s):
    return abs(c) < 2 ** s and abs(b) < 2 ** s + c


class NearestStillTest(unittest.TestCase):
    def check(self, one, two, s):
        one, two = Fraction(one), Fraction(two)
        told = asked(self, nearest_still, as_pair(one), as_pair(two), s)
        self.assertEqual([type(part) for part in told], [int, int, list])

        def rank(b, c):
            return (max(abs(Fraction(b, 2 ** s) - one), abs(Fraction(c, 2 ** s) - two)), b, c)

        b, c, barred = told
        self.assertTrue(is_still(b, c, s))
        at, beside = int(one * 2 ** s // 1), int(two * 2 ** s // 1)
        near = list(itertools.product(range(at - 5, at + 7), range(beside - 5, beside + 7)))
        still = [pair for pair in near if is_still(*pair, s)]
        self.assertEqual((b, c), min(still, key=lambda pair: rank(*pair)))
        ahead = sorted(pair for pair in near if rank(*pair) < rank(b, c))
        self.assertEqual(barred, [(*pair, "two" if abs(pair[1]) >= 2 ** s else "one") for pair in ahead])
        for other in barred:
            self.assertIs(type(other), tuple)
            self.assertFalse(is_still(*other[:2], s))
        return told

    def test_by_hand(self):
        self.assertEqual(self.check(Fraction(1, 2), Fraction(1, 4), 4), (8, 4, []))
        self.assertEqual(self.check(0, -1, 2), (0, -3, [(-1, -5, "two"), (-1, -4, "two"), (-1, -3, "one"),
                                                        (0, -5, "two"), (0, -4, "two")]))
        self.assertEqual(self.check(0, 0, 0), (0, 0, []))
        # Of the pairs that are as far off the least b is taken, and with it the least c.
        self.assertEqual(self.check(0, 1, 3), (-1, 7, [(0, 8, "two")]))

    def test_points_nought_one_and_twenty(self):
        for s in (0, 1, 2, 20):
            for two in (Fraction(-1), Fraction(-1, 2), Fraction(0), Fraction(1, 3), Fraction(1, 2), Fraction(1)):
                for share in (Fraction(-1), Fraction(-2, 3), Fraction(0), Fraction(1, 7), Fraction(1, 2), Fraction(1)):
                    self.check(share * (1 + two), two, s)

    def test_the_corners(self):
        for s in range(21):
            self.assertEqual(self.check(2, 1, s)[:2], (2 ** (s + 1) - 2, 2 ** s - 1))
            self.assertEqual(self.check(-2, 1, s)[:2], (2 - 2 ** (s + 1), 2 ** s - 1))
            self.assertEqual(self.check(0, -1, s)[:2], (0, 1 - 2 ** s))

    def test_the_sides(self):
        dice = chance(531)
        for _ in range(60):
            s = dice.choice((0, 1, 2, 3, 8, 20))
            two = Fraction(dice.randint(-2 ** s, 2 ** s), 2 ** s)
            self.check(dice.choice((1, -1)) * (1 + two), two, s)
            two = Fraction(dice.randint(-999, 999), 999)
            self.check(dice.choice((1, -1)) * (1 + two), two, s)
            self.check(Fraction(dice.randint(-1998, 1998), 999), 1, s)

    def test_within(self):
        dice = chance(532)
        for _ in range(150):
            two = Fraction(dice.randint(-50, 50), 50)
            one = (1 + two) * Fraction(dice.randint(-60, 60), 60)
            self.check(one, two, dice.randint(0, 20))
        two = Fraction(LONG - 9, LONG)
        self.check(two, two, 20)
        self.check(Fraction(1, LONG), Fraction(-1, LONG), 7)

    def test_a_still_pair_is_told_itself(self):
        for s in (0, 1, 2, 3):
            for c in range(-2 ** s, 2 ** s + 1):
                for b in range(-2 ** s - c, 2 ** s + c + 1):
                    told = self.check(Fraction(b, 2 ** s), Fraction(c, 2 ** s), s)
                    if is_still(b, c, s):
                        self.assertEqual(told, (b, c, []))

    def test_still_is_where_the_ladder_ends_within(self):
        for s in (0, 1, 2, 3):
            for c in range(-2 ** s - 2, 2 ** s + 3):
                for b in range(-2 ** (s + 1) - 2, 2 ** (s + 1) + 3):
                    bottom = [(1, 1), as_pair(Fraction(b, 2 ** s)), as_pair(Fraction(c, 2 ** s))]
                    self.assertEqual(ladder(bottom)[0] == "in", is_still(b, c, s))

    def test_no_choice(self):
        good = [(1, 2), (1, 4), 3]
        refused_at(self, NoChoice, nearest_still, good, 0, no_fractions())
        refused_at(self, NoChoice, nearest_still, good, 1, no_fractions())
        refused_at(self, NoChoice, nearest_still, good, 2, [-1, 21, 22, 10 ** 30, "3", "", *other_kinds()])
        for one, two in (((0, 1), (2, 1)), ((0, 1), (1001, 1000)), ((0, 1), (-1001, 1000)), ((2001, 1000), (1, 1)),
                         ((-2001, 1000), (1, 1)), ((1, 1000), (-1, 1)), ((3, 2), (1, 4)), ((-3, 2), (1, 4)),
                         ((1, 1), (-1, 1000)), ((-1, 1), (-1, 1000)), ((0, 1), (-2, 1)), ((0, 1), (LONG, LONG - 1))):
            for s in (0, 20):
                refusal(self, NoChoice, nearest_still, one, two, s)
        refusal(self, NoChoice, nearest_still, (0, 1), (0, 1), Stranger())
        self.assertEqual(nearest_still(point=3, two=(1, 4), one=(1, 2)), nearest_still(*good))


class InterfaceTest(unittest.TestCase):
    def test_names_and_arguments(self):
        check_interface(self, choices, {"fitted": "(values, total)", "nearest_still": "(one, two, point)"})


if __name__ == "__main__":
    unittest.main()

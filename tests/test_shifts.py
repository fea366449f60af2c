"""Points 2, 4, 54, 55 and 56: shifts behind the sections of a chain, and the best order of the sections."""

import copy
import itertools
import unittest
from fractions import Fraction

from echobound import shifts
from echobound.errors import NoChoice
from echobound.series import answered
from echobound.shifts import best_order, chosen
from tests.helper import (Stranger, as_number, as_numbers, as_pair, as_pairs, asked, chance, check_interface,
                          no_fractions, other_kinds, refused_at)

MILLION = 10 ** 6
GREATEST = 10 ** 12


def multiplied(one, other):
    told = [Fraction(0)] * (len(one) + len(other) - 1)
    for at, number in enumerate(one):
        for beside, another in enumerate(other):
            told[at + beside] += number * another
    return told


def sizes(series):
    return sum((abs(number) for number in series), Fraction(0))


def product_of_all(sections):
    told = [Fraction(1)]
    for section in sections:
        told = multiplied(told, section)
    return told


def plain_error(sections, sums):
    """Half the sum over all sections of two to its sum times the sizes behind it."""
    return sum((Fraction(2) ** total * sizes(product_of_all(sections[at + 1:])) for at, total in enumerate(sums)),
               Fraction(0)) / 2


def plain_chosen(sections, most, limit):
    """The shifts, the error and the sums."""
    total, told = 0, []
    for at in range(len(sections)):
        size = most * sizes(product_of_all(sections[:at + 1]))
        while size / Fraction(2) ** total > limit:
            total += 1
        told.append(total)
    return ([one - ahead for one, ahead in zip(told, [0, *told])], plain_error(sections, told), told)


def some_section(dice, places=8, figures=1):
    greatest = 10 ** figures
    return [Fraction(dice.choice((0, 1, 1, 1)) * dice.randint(-greatest, greatest), dice.randint(1, greatest))
            for _ in range(dice.randint(1, places))]


class ChosenTest(unittest.TestCase):
    def check(self, sections, most, limit):
        sections = [[Fraction(number) for number in section] for section in sections]
        wanted, error, sums = plain_chosen(sections, most, limit)
        told = asked(self, chosen, [as_pairs(section) for section in sections], most, limit)
        self.assertEqual([type(part) for part in told], [list, tuple, list])
        self.assertEqual(told[:2], (wanted, as_pair(error)))
        self.assertEqual(len(told[2]), len(sections))
        for at, (shift, row) in enumerate(zip(wanted, told[2])):
            series = product_of_all(sections[:at + 1])
            if shift == 0:
                self.assertIsNone(row)
                continue
            self.assertEqual(len(row), len(series))
            self.assertTrue(set(row) <= {most, -most})
            last = as_number(answered(as_pairs(series), [(1, 1)], as_pairs(row))[-1])
            self.assertEqual(last, most * sizes(series))
            self.assertGreater(last / Fraction(2) ** (sums[at] - 1), limit)
            self.assertLessEqual(last / Fraction(2) ** sums[at], limit)
            for number, place in zip(reversed(row), series):
                if place == 0:
                    self.assertEqual(number, most)
        return told

    def test_by_hand(self):
        told = self.check([[1, -2], [Fraction(1, 2), 0, 3]], 10, 15)
        self.assertEqual(told, ([1, 2], (15, 2), [[-10, 10], [-10, 10, -10, 10]]))
        self.assertEqual(self.check([[1]], 1, 1), ([0], (1, 2), [None]))
        self.assertEqual(self.check([[2]], 1, 1), ([1], (1, 1), [[1]]))
        self.assertEqual(self.check([[-2]], 1, 1), ([1], (1, 1), [[-1]]))
        self.assertEqual(self.check([[4, 0, -1]], 3, 4), ([2], (2, 1), [[-3, 3, 3]]))

    def test_one_section(self):
        for section in ([0], [1], [-1], [Fraction(1, 3)], [0, 0, 5], [5, 0, 0], list(range(-3, 5)), [0] * 8, [1] * 8):
            for most, limit in ((1, 1), (1, GREATEST), (GREATEST, 1), (7, 3), (3, 7), (GREATEST, GREATEST)):
                self.check([section], most, limit)

    def test_no_shift_some_and_one_behind_the_other(self):
        self.assertEqual(self.check([[1, 1], [1, 1]], 1, 4)[0], [0, 0])
        self.assertEqual(self.check([[1, 1], [1, 1]], 1, 3)[0], [0, 1])
        self.assertEqual(self.check([[1, 1], [1, 1]], 1, 1)[0], [1, 1])
        self.assertEqual(self.check([[4], [Fraction(1, 4)], [4], [2]], 1, 1)[0], [2, 0, 0, 1])
        self.assertEqual(self.check([[Fraction(1, 4)], [4], [1], [8]], 1, 1)[0], [0, 0, 0, 3])
        # Just at the limit nothing is moved; a little above, it is.
        self.assertEqual(self.check([[Fraction(MILLION, MILLION - 1)]], MILLION - 1, MILLION)[0], [0])
        self.assertEqual(self.check([[Fraction(MILLION, MILLION - 1)]], MILLION, MILLION)[0], [1])

    def test_signs_that_cancel_each_other(self):
        # The sizes are those of the product, not the product of the sizes.
        self.assertEqual(self.check([[1, 1], [1, -1]], 1, 2)[0], [0, 0])
        self.assertEqual(self.check([[1, -1], [1, 1, 1]], 1, 1)[0], [1, 0])

    def test_noughts_behind(self):
        self.assertEqual(self.check([[8], [0], [5]], 1, 1), ([3, 0, 0], (24, 1), [[1], None, None]))
        self.assertEqual(self.check([[0], [8], [5]], 1, 1), ([0, 0, 0], (23, 1), [None] * 3))

    def test_any(self):
        dice = chance(541)
        for _ in range(80):
            sections = [some_section(dice, dice.choice((1, 3, 8)), dice.choice((1, 1, 2, 6)))
                        for _ in range(dice.randint(1, 4))]
            self.check(sections, dice.choice((1, 9, 100, GREATEST)), dice.choice((1, 10, 255, GREATEST)))

    def test_the_greatest_numbers(self):
        section = [Fraction(MILLION)] * 8
        told = self.check([section] * 4, GREATEST, 1)
        self.assertGreater(sum(told[0]), 100)
        self.check([[Fraction(-1, MILLION)] * 8] * 4, 1, GREATEST)

    def test_no_other_shifts_are_better(self):
        dice = chance(542)
        for _ in range(30):
            sections = [some_section(dice, 3) for _ in range(dice.randint(1, 3))]
            most, limit = dice.choice((1, 3)), dice.choice((1, 2))
            told = self.check(sections, most, limit)
            own = list(itertools.accumulate(told[0]))
            greatest = [most * sizes(product_of_all(sections[:at + 1])) for at in range(len(sections))]
            for others in itertools.product(range(6), repeat=len(sections)):
                sums = list(itertools.accumulate(others))
                if all(size <= limit * 2 ** total for size, total in zip(greatest, sums)):
                    self.assertTrue(all(one <= other for one, other in zip(own, sums)))
                    self.assertLessEqual(as_number(told[1]), plain_error(sections, sums))


class BestOrderTest(unittest.TestCase):
    def check(self, sections, most, limit):
        sections = [[Fraction(number) for number in section] for section in sections]
        wanted = []
        for order in itertools.permutations(range(len(sections))):
            told_shifts, error, _ = plain_chosen([sections[number] for number in order], most, limit)
            wanted.append((list(order), told_shifts, as_pair(error)))
        told = asked(self, best_order, [as_pairs(section) for section in sections], most, limit)
        self.assertEqual([type(part) for part in told], [list, list, tuple, list])
        self.assertEqual(told[3], sorted(wanted, key=lambda row: row[0]))
        best = min(wanted, key=lambda row: (as_number(row[2]), row[0]))
        self.assertEqual(told[:3], best)
        for order, told_shifts, error in told[3]:
            self.assertEqual(chosen([as_pairs(sections[number]) for number in order], most, limit)[:2],
                             (told_shifts, error))
        return told

    def test_by_hand(self):
        self.assertEqual(self.check([[4], [Fraction(1, 4)]], 1, 1),
                         ([0, 1], [2, 0], (5, 2), [([0, 1], [2, 0], (5, 2)), ([1, 0], [0, 0], (5, 2))]))
        self.assertEqual(self.check([[2, 1], [Fraction(1, 4)]], 1, 1),
                         ([1, 0], [0, 0], (2, 1), [([0, 1], [2, 0], (5, 2)), ([1, 0], [0, 0], (2, 1))]))
        self.assertEqual(self.check([[1, 1]], 1, 1), ([0], [1], (1, 1), [([0], [1], (1, 1))]))
        self.assertEqual(len(self.check([[1]] * 4, 1, 1)[3]), 24)

    def test_of_several_the_least_order(self):
        for many in (1, 2, 3, 4):
            told = self.check([[2, -1]] * many, 3, 4)
            self.assertEqual(told[0], list(range(many)))
        told = self.check([[1], [3], [1]], 1, 1)
        same = [row for row in told[3] if row[2] == told[2]]
        self.assertGreater(len(same), 1)
        self.assertEqual(told[0], same[0][0])

    def test_another_order_than_the_first(self):
        orders = set()
        dice = chance(551)
        for _ in range(40):
            sections = [some_section(dice, 4) for _ in range(dice.randint(2, 4))]
            orders.add(tuple(self.check(sections, dice.choice((1, 50)), dice.choice((1, 20)))[0]))
        self.assertGreater(len(orders), 5)

    def test_four_of_eight(self):
        dice = chance(552)
        sections = [[Fraction(dice.randint(-MILLION, MILLION), dice.randint(1, MILLION)) for _ in range(8)]
                    for _ in range(4)]
        self.check(sections, GREATEST, 1)


class RefusedTest(unittest.TestCase):
    def test_no_sections(self):
        one = (1, 1)
        wrong = [*other_kinds(), "", "ab", 0, 1, [], [[]], [[one], []], [[one]] * 5, [[one] * 9], ([one],), [(one,)],
                 [one], [[one], None], [[one], one], [[[one]]], {0: [one]}, [[one], Stranger()],
                 [[(MILLION + 1, 1)]], [[(-MILLION - 1, 1)]], [[(1, MILLION + 1)]], [[one, (1, MILLION + 1)]],
                 [[one], [one, (10 ** 30, 1)]]]
        wrong += [[[thing]] for thing in no_fractions()]
        wrong += [[[one], [one, thing]] for thing in no_fractions()]
        for call in (chosen, best_order):
            refused_at(self, NoChoice, call, [[[one]], 1, 1], 0, wrong)

    def test_no_sizes(self):
        for call in (chosen, best_order):
            for at in (1, 2):
                refused_at(self, NoChoice, call, [[[(1, 1)]], 1, 1], at,
                           [0, -1, GREATEST + 1, 10 ** 30, -GREATEST, "1", "", Fraction(1), *other_kinds()])

    def test_just_within(self):
        section = [(MILLION, 1), (-MILLION, 1), (1, MILLION), (-1, MILLION), (0, 1), (MILLION - 1, MILLION), (1, 1),
                   (2, 1)]
        for most, limit in ((1, GREATEST), (GREATEST, 1)):
            self.assertEqual(len(chosen([section] * 4, most, limit)[0]), 4)
        self.assertEqual(chosen(limit=3, most=2, sections=[[(2, 1)]]), chosen([[(2, 1)]], 2, 3))
        self.assertEqual(best_order(limit=3, most=2, sections=[[(2, 1)]]), best_order([[(2, 1)]], 2, 3))


class InterfaceTest(unittest.TestCase):
    def test_names_and_arguments(self):
        check_interface(self, shifts, {"chosen": "(sections, most, limit)", "best_order": "(sections, most, limit)"})

    def test_sections_stay(self):
        sections = [[(1, 1), (-2, 1)], [(3, 1)]]
        before = copy.deepcopy(sections)
        told = chosen(sections, 5, 1)
        told[2][0].append(9)
        best_order(sections, 5, 1)[3][0][0].clear()
        self.assertEqual(sections, before)
        self.assertEqual(as_numbers(sections[0]), [1, -2])


if __name__ == "__main__":
    unittest.main()

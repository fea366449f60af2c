"""Points 2, 4, 50, 51 and 56: the greatest and the least sum of taps, and the width that has room for all sums."""

import itertools
import unittest

from echobound import taps
from echobound.errors import NoChoice
from echobound.forms import Form
from echobound.taps import extremes, guard
from tests.helper import Stranger, asked, chance, check_interface, other_kinds, refusal, refused_at

NO_NUMBERS = ["", "1", *other_kinds()]
NO_TAPS = [None, True, 0, 1, "", "ab", (), (1,), (1, 2), {}, {1}, {1: 1}, b"1", Stranger(), [], [1] * 41, [1] * 200,
           [10 ** 18], [-10 ** 18], [1, 10 ** 18, 1], [10 ** 399], [[1]], [(1,)], [1, None],
           *[[thing] for thing in NO_NUMBERS], *[[1, 2, thing] for thing in NO_NUMBERS]]


def plain_sum(some, row):
    return sum(tap * number for tap, number in zip(some, reversed(row)))


def room(width):
    return range(-2 ** (width - 1), 2 ** (width - 1))


class ExtremesTest(unittest.TestCase):
    def check(self, some, low, high):
        told = asked(self, extremes, some, low, high)
        self.assertEqual([type(part) for part in told], [int, list, int, list])
        least, row, greatest, other_row = told
        for sum_told, one in ((least, row), (greatest, other_row)):
            self.assertEqual(plain_sum(some, one), sum_told)
            self.assertEqual(len(one), len(some))
            self.assertTrue(set(one) <= {low, high})
            for tap, number in zip(some, reversed(one)):
                if tap == 0:
                    self.assertEqual(number, low)
        # No number of a row can make the sum lesser, or greater, than the tap's own least and greatest share.
        self.assertEqual(least, sum(min(tap * low, tap * high) for tap in some))
        self.assertEqual(greatest, sum(max(tap * low, tap * high) for tap in some))
        return told

    def test_by_hand(self):
        self.assertEqual(self.check([1, -2, 0, 3], -5, 7), (-34, [-5, -5, 7, -5], 38, [7, -5, -5, 7]))
        self.assertEqual(self.check([2], 3, 4), (6, [3], 8, [4]))
        self.assertEqual(self.check([-2], 3, 4), (-8, [4], -6, [3]))
        self.assertEqual(self.check([0], 3, 4), (0, [3], 0, [3]))
        self.assertEqual(self.check([1, 10], 0, 1), (0, [0, 0], 11, [1, 1]))
        self.assertEqual(self.check([1, -10], 0, 1), (-10, [1, 0], 1, [0, 1]))

    def test_all_rows(self):
        dice = chance(501)
        for _ in range(60):
            some = [dice.randint(-3, 3) for _ in range(dice.randint(1, 4))]
            low = dice.randint(-3, 2)
            high = dice.randint(low, 3)
            told = self.check(some, low, high)
            sums = [plain_sum(some, row) for row in itertools.product(range(low, high + 1), repeat=len(some))]
            self.assertEqual((told[0], told[2]), (min(sums), max(sums)))

    def test_ends_alike_and_of_either_sign(self):
        for low, high in ((5, 5), (-5, -5), (0, 0), (-7, -3), (3, 7), (0, 4), (-4, 0), (-1, 1)):
            for some in ([1], [-1], [0], [2, -3, 0, 4], [-1, -1, -1]):
                self.check(some, low, high)

    def test_forty_taps_and_long_numbers(self):
        dice = chance(502)
        greatest = 10 ** 18 - 1
        for some in ([greatest] * 40, [-greatest] * 40, [dice.randint(-greatest, greatest) for _ in range(40)],
                     [(-1) ** at * at for at in range(40)]):
            for low, high in ((-2 ** 63, 2 ** 63 - 1), (-10 ** 399, 10 ** 399), (10 ** 18, 10 ** 20)):
                self.check(some, low, high)

    def test_no_choice(self):
        refused_at(self, NoChoice, extremes, [[1], -1, 1], 0, NO_TAPS)
        refused_at(self, NoChoice, extremes, [[1], -1, 1], 1, [*NO_NUMBERS, 2, 10 ** 30])
        refused_at(self, NoChoice, extremes, [[1], -1, 1], 2, [*NO_NUMBERS, -2, -10 ** 30])
        for low, high in ((1, 0), (0, -1), (10 ** 399, -10 ** 399)):
            refusal(self, NoChoice, extremes, [1], low, high)
        self.assertEqual(extremes(high=1, low=-1, taps=[2]), (-2, [-1], 2, [1]))


class GuardTest(unittest.TestCase):
    def check(self, some, form):
        told = asked(self, guard, some, form)
        self.assertIs(type(told), tuple)
        width, row = told
        least, least_row, greatest, greatest_row = extremes(some, form.least(), form.greatest())
        self.assertTrue(least in room(width) and greatest in room(width))
        if row is None:
            self.assertEqual(width, 2)
        else:
            self.assertGreater(width, 2)
            self.assertNotIn(plain_sum(some, row), room(width - 1))
            self.assertEqual(row, greatest_row if greatest not in room(width - 1) else least_row)
        return told

    def test_by_hand(self):
        self.assertEqual(self.check([0], Form(2)), (2, None))
        self.assertEqual(self.check([0, 0], Form(64)), (2, None))
        self.assertEqual(self.check([1], Form(2)), (2, None))
        self.assertEqual(self.check([1], Form(4)), (4, [7]))
        self.assertEqual(self.check([-1], Form(4)), (5, [-8]))
        self.assertEqual(self.check([1, -2], Form(4)), (6, [-8, 7]))

    def test_where_only_the_least_has_no_room(self):
        self.assertEqual(self.check([3], Form(2)), (4, [-2]))
        self.assertEqual(self.check([1, 1, 1], Form(2)), (4, [-2, -2, -2]))
        self.assertEqual(self.check([2, 0, 1], Form(2)), (4, [-2, -2, -2]))
        self.assertEqual(self.check([5], Form(3)), (6, [-4]))

    def test_above_sixty_four(self):
        self.assertEqual(self.check([10 ** 17] * 40, Form(64))[0], 126)
        self.assertEqual(self.check([1], Form(64)), (64, [2 ** 63 - 1]))
        self.assertEqual(self.check([-1], Form(64)), (65, [-2 ** 63]))
        self.check([10 ** 18 - 1] * 40, Form(64))
        self.check([-10 ** 18 + 1] * 40, Form(64))

    def test_any(self):
        dice = chance(511)
        rows = {"least": 0, "greatest": 0, None: 0}
        for _ in range(400):
            some = [dice.randint(-4, 4) for _ in range(dice.randint(1, 5))]
            form = Form(dice.choice((2, 3, 4, 8, 16)), dice.choice((0, 3)), "in", dice.choice(("wrap", "stop")))
            width, row = self.check(some, form)
            told = extremes(some, form.least(), form.greatest())
            rows[None if row is None else "greatest" if row == told[3] else "least"] += 1
        self.assertGreater(min(rows.values()), 5)

    def test_no_choice(self):
        refused_at(self, NoChoice, guard, [[1], Form(4)], 0, NO_TAPS)
        no_forms = [*other_kinds(), "", "4.0 half wrap", 4, Form(), Form(None, 3)]
        refused_at(self, NoChoice, guard, [[1], Form(4)], 1, no_forms)
        self.assertEqual(guard(form=Form(4), taps=[1]), (4, [7]))


class InterfaceTest(unittest.TestCase):
    def test_names_and_arguments(self):
        check_interface(self, taps, {"extremes": "(taps, low, high)", "guard": "(taps, form)"})


if __name__ == "__main__":
    unittest.main()

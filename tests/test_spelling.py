"""Points 2, 4 and 35: whole numbers spelled, and nets without times."""

import itertools
import unittest

from echobound import spelling
from echobound.builds import direct, rungs
from echobound.errors import BadNet
from echobound.forms import Form
from echobound.machines import turned
from echobound.nets import Net
from echobound.spelling import spelled, without_times
from tests.helper import (LONG, asked, chance, check_interface, echo_net, plain_turn, refusal, some_form, some_net,
                          some_word)


def value(digits):
    return sum(digit * 2 ** place for place, digit in enumerate(digits))


class SpelledTest(unittest.TestCase):
    def check(self, number):
        digits = asked(self, spelled, number)
        self.assertIs(type(digits), list)
        self.assertTrue(all(type(digit) is int and digit in (-1, 0, 1) for digit in digits))
        self.assertEqual(value(digits), number)
        for one, other in zip(digits, digits[1:]):
            self.assertTrue(one == 0 or other == 0, number)
        if digits:
            self.assertNotEqual(digits[-1], 0)
        return digits

    def test_by_hand(self):
        for number, digits in [(0, []), (1, [1]), (-1, [-1]), (2, [0, 1]), (3, [-1, 0, 1]), (7, [-1, 0, 0, 1]),
                               (-7, [1, 0, 0, -1]), (5, [1, 0, 1]), (6, [0, -1, 0, 1]), (11, [-1, 0, -1, 0, 1]),
                               (2 ** 63 - 1, [-1] + [0] * 62 + [1]), (-2 ** 63, [0] * 63 + [-1])]:
            self.assertEqual(spelled(number), digits)
        self.assertEqual(spelled(number=7), [-1, 0, 0, 1])

    def test_small_numbers(self):
        for number in range(-1100, 1101):
            self.check(number)

    def test_numbers_of_one_figure_to_forty(self):
        dice = chance(171)
        for figures in range(1, 41):
            for _ in range(10):
                number = dice.randint(10 ** (figures - 1), 10 ** figures - 1)
                digits = self.check(number)
                self.assertEqual(self.check(-number), [-digit for digit in digits])

    def test_near_powers_of_two(self):
        for power in range(0, 130):
            for more in (-3, -2, -1, 0, 1, 2, 3):
                for sign in (1, -1):
                    self.check(sign * (2 ** power + more))

    def test_numbers_of_many_figures(self):
        for number in (LONG, -LONG, 10 ** 399, 2 ** 1300 - 1, 3 ** 800):
            self.check(number)

    def test_no_list_has_fewer(self):
        fewest = {}
        for digits in itertools.product((-1, 0, 1), repeat=9):
            number = value(digits)
            fewest[number] = min(fewest.get(number, 9), sum(digit != 0 for digit in digits))
        for number in range(-170, 171):
            self.assertEqual(sum(digit != 0 for digit in spelled(number)), fewest[number])

    def test_just_one_such_list(self):
        told = {}
        for many in range(9):
            for digits in itertools.product((-1, 0, 1), repeat=many):
                apart = all(one == 0 or other == 0 for one, other in zip(digits, digits[1:]))
                if apart and (not digits or digits[-1] != 0):
                    self.assertNotIn(value(digits), told)
                    told[value(digits)] = list(digits)
        for number, digits in told.items():
            self.assertEqual(spelled(number), digits)


def rows_told(net):
    """Rows and places as the document tells them."""
    rows, places = [], []
    for row in net.rows():
        if row[0] == "times":
            word, factor, more, at = row
            rows.append(("less", places[at], places[at]))
            for k, digit in enumerate(spelled(factor)):
                if digit:
                    last = len(rows) - 1
                    rows.append(("move", k - more, places[at]))
                    rows.append(("plus" if digit == 1 else "less", last, len(rows) - 1))
        elif row[0] in ("plus", "less"):
            rows.append((row[0], places[row[1]], places[row[2]]))
        elif row[0] in ("move", "keep"):
            rows.append((row[0], row[1], places[row[2]]))
        else:
            rows.append(row)
        places.append(len(rows) - 1)
    return (rows, places)


class WithoutTimesTest(unittest.TestCase):
    def check(self, net, dice):
        told = asked(self, without_times, net)
        self.assertIs(type(told), tuple)
        other, places = told
        self.assertEqual((type(other), type(places)), (Net, list))
        self.assertEqual((other.rows(), places), rows_told(net))
        self.assertEqual((other.forms(), other.enters(), other.out()), (net.forms(), net.enters(), places[net.out()]))
        self.assertEqual(other.holds(), [(form, word, places[row]) for form, word, row in net.holds()])
        self.assertNotIn("times", [row[0] for row in other.rows()])
        for _ in range(4):
            state = tuple(some_word(dice, net.forms()[hold[0]]) for hold in net.holds())
            word = some_word(dice, net.forms()[net.enters()])
            numbers, after, went = plain_turn(net, state, word)
            others, other_after = turned(other, state, word)
            self.assertEqual(other_after, after)
            for row, place in enumerate(places):
                # The same value, perhaps at another point.
                one, two = net.points()[row], other.points()[place]
                self.assertEqual(numbers[row] * 2 ** (200 - one), others[place] * 2 ** (200 - two))
        return told

    def test_by_hand(self):
        net, places = without_times(echo_net())
        self.assertEqual(net.rows(), [("in",), ("old", 0), ("less", 1, 1), ("move", -2, 1), ("less", 2, 3),
                                      ("move", 0, 1), ("plus", 4, 5), ("plus", 0, 6), ("keep", 0, 7)])
        self.assertEqual((places, net.holds(), net.out()), ([0, 1, 6, 7, 8], [(0, 0, 8)], 8))

    def test_factors(self):
        dice = chance(172)
        for factor in (0, 1, -1, 2, -2, 3, -3, 7, -7, 100, -85, 2 ** 63 - 1, 1 - 2 ** 63, 2 ** 62):
            for more in (0, 1, 5, 63, 64):
                rows = [("in",), ("times", factor, more, 0), ("plus", 1, 0), ("keep", 1, 2)]
                net = Net([Form(8, 3), Form(16, 2)], 0, rows, [(1, -9, 3)], 1)
                other, places = self.check(net, dice)
                many = sum(digit != 0 for digit in spelled(factor))
                self.assertEqual(places, [0, 1 + 2 * many, 2 + 2 * many, 3 + 2 * many])
        net, places = without_times(Net([Form(8)], 0, [("in",), ("times", 0, 9, 0), ("times", 1, 9, 1)], [], 2))
        self.assertEqual(net.rows(), [("in",), ("less", 0, 0), ("less", 1, 1), ("move", -9, 1), ("plus", 2, 3)])

    def test_times_of_one_another(self):
        dice = chance(173)
        rows = [("in",), ("times", 3, 2, 0), ("times", -5, 1, 1), ("times", 0, 3, 2), ("times", 7, 0, 1),
                ("less", 2, 4), ("times", 6, 4, 5), ("old", 0), ("plus", 6, 7), ("keep", 0, 8)]
        self.check(Net([Form(12, 2, "even", "stop")], 0, rows, [(0, 77, 9)], 6), dice)

    def test_nets_without_times_stay(self):
        rows = [("in",), ("old", 0), ("plus", 0, 1), ("move", -1, 2), ("keep", 0, 3)]
        net = Net([Form(8)], 0, rows, [(0, 5, 4)], 3)
        other, places = without_times(net=net)
        self.assertTrue(other == net)
        self.assertEqual(places, [0, 1, 2, 3, 4])

    def test_any_net(self):
        dice = chance(174)
        for _ in range(80):
            forms = [some_form(dice) for _ in range(dice.randint(1, 4))]
            self.check(some_net(dice, forms, dice.choice((0, 1, 2, 6)), dice.randint(1, 8), 12, 6), dice)

    def test_builds(self):
        dice = chance(175)
        for net in (direct([3, -1], [7], 4, Form(8), Form(12, 3)),
                    rungs([3, -5, 1], 3, Form(8, 2), Form(9, 1, "down"))):
            self.check(net, dice)

    def refused(self, net, at):
        error = refusal(self, BadNet, without_times, net)
        self.assertEqual((error.part, error.at), ("rows", at))
        error = refusal(self, BadNet, without_times, net=net)
        self.assertEqual((error.part, error.at), ("rows", at))

    def far(self, rows):
        """A net whose rows 1 to 3 go down to the point -192, and these behind."""
        return Net([Form(8)], 0, [("in",), *[("move", 64, at) for at in range(3)], *rows], [], 0)

    def test_a_point_too_far(self):
        self.refused(self.far([("times", 2 ** 9, 0, 3)]), 5)
        self.refused(self.far([("times", -2 ** 9, 0, 3), ("times", 2 ** 30, 0, 3)]), 5)
        self.refused(self.far([("in",), ("times", 1 + 2 ** 40, 0, 3)]), 8)
        self.refused(self.far([("times", 7, 0, 0), ("times", 2 ** 62 + 8, 0, 3)]), 12)
        without_times(self.far([("times", 2 ** 8, 0, 3)]))
        without_times(self.far([("times", 2 ** 8 + 1, 5, 3)]))

    def test_too_many_rows(self):
        def net(ones):
            return Net([Form(8)], 0, [("in",), *[("times", 1, 0, 0)] * ones], [], 0)

        self.assertEqual(len(without_times(net(19))[0]), 58)
        self.refused(net(20), None)
        self.refused(net(59), None)
        self.assertEqual(len(without_times(Net([Form(8)], 0, [("in",)] * 59 + [("times", 0, 3, 0)], [], 0))[0]), 60)
        self.refused(Net([Form(8)], 0, [("in",)] * 59 + [("times", 2, 3, 0)], [], 0), None)
        # Too many rows and one of them amiss: the list itself comes first.
        self.refused(self.far([("times", 2 ** 9, 0, 3), *[("in",)] * 55]), None)

    def test_the_net_stays(self):
        net = echo_net()
        without_times(net)
        self.assertTrue(net == echo_net())


class InterfaceTest(unittest.TestCase):
    def test_names_and_arguments(self):
        check_interface(self, spelling, {"spelled": "(number)", "without_times": "(net)"})


if __name__ == "__main__":
    unittest.main()

"""Points 2, 3, 4 and 31 to 33: transfer, gain and drift."""

import itertools
import unittest
from fractions import Fraction

from echobound.builds import beside, chain, direct, freed, rungs, transposed
from echobound.errors import NoSeries, TooSlow
from echobound.forms import Form
from echobound.fractions import is_fraction
from echobound.machines import Machine
from echobound.nets import Net
from echobound.series import answered, response
from echobound.stillness import halving
from echobound.twins import drift, errors_of, exact_run, gain, matrices_of, slack_of, transfer
from tests.helper import (MANNERS, as_number, as_numbers, as_pair, as_pairs, as_rows, asked, chance, echo_net,
                          enter_of, flipped, led_by, multiplied, other_kinds, plain_points, refusal, some_form,
                          some_net, some_word, twin_run, unit_rows)

NO_MANY = [0, -1, 61, 62, 10 ** 30, -60, "1", "", *other_kinds()]


def scale_of(net):
    """2 ** (p - o)."""
    return Fraction(2) ** (enter_of(net).point - plain_points(net)[net.out()])


def response_of(net, many):
    """The twin's out values behind a word of value 1, from a state of noughts."""
    words = [Fraction(2) ** enter_of(net).point] + [Fraction(0)] * (many - 1)
    return twin_run(net, words, [Fraction(0)] * len(net.holds()))


def bottom_of(rows):
    """The bottom of the transfer, as the document steps it."""
    told, middle = [Fraction(1)], rows
    for k in range(1, len(rows) + 1):
        told.append(-sum(middle[i][i] for i in range(len(rows))) / k)
        added = [[place + told[-1] * one for place, one in zip(line, ones)]
                 for line, ones in zip(middle, unit_rows(len(rows)))]
        middle = multiplied(rows, added)
    return told


def sizes_of(net):
    """The sum, over the powers of F below the one that halves, of the sizes of all places of C times that power."""
    matrix, column, row, through = matrices_of(net)
    line, total = as_numbers(row), Fraction(0)
    for _ in range(halving(matrix)):
        total += sum(abs(place) for place in line)
        line = led_by(flipped(as_rows(matrix)), line)
    return total


def gain_of(net, many):
    low = sum(abs(place) for place in response_of(net, many))
    matrix, column, row, through = matrices_of(net)
    line = as_numbers(column)
    for _ in range(many - 1):
        line = led_by(as_rows(matrix), line)
    return (low, low + scale_of(net) * 2 * sizes_of(net) * max([abs(place) for place in line], default=0))


def drift_of(net):
    total = Fraction(0)
    for row, to_holds, to_out in errors_of(net):
        greatest = max([abs(place) for place in as_numbers(to_holds)], default=0)
        total += as_number(slack_of(net, row)) * (abs(as_number(to_out)) + 2 * greatest * sizes_of(net))
    return total / Fraction(2) ** plain_points(net)[net.out()]


def holdless():
    return [Net([Form(8, 3)], 0, [("in",)], [], 0), Net([Form(8, 3), Form(6, 1)], 0, [("in",), ("keep", 1, 0)], [], 1),
            Net([Form(4, -1), Form(4, 2)], 0, [("in",), ("keep", 1, 0), ("times", -7, 1, 1), ("less", 2, 0)], [], 3)]


def built():
    """Still nets of each build, by unlike forms."""
    told = []
    for enter, keep in [(Form(8, 3), Form(24, 8)), (Form(10), Form(30, 5, "down", "stop")),
                        (Form(6, -2, "up"), Form(20, 2, "in", "stop")), (Form(8, 64), Form(60, 64, "out")),
                        (Form(8, 10), Form(24, 4, "even")), (Form(8, 2), Form(None, 1, "far"))]:
        told += [direct([3, -2, 5], [-7, 3], 4, enter, keep), transposed([3, -2, 5, 1], [-7, 3], 4, enter, keep),
                 direct([5], [9], 4, enter, keep), transposed([5], [-9], 4, enter, keep),
                 direct([1, 2, 3, 4], [], 2, enter, keep), rungs([3, -5], 3, enter, keep),
                 rungs([1, -1, 2], 3, enter, keep), rungs([], 0, enter, keep)]
    return told


def still_nets(seed, many, holds=(1, 2, 3)):
    """Nets by chance whose F is halved by some power up to 60."""
    dice = chance(seed)
    told = []
    while len(told) < many:
        forms = [some_form(dice, (None, 12, 40)) for _ in range(dice.randint(1, 3))]
        net = some_net(dice, forms, dice.choice(holds), dice.randint(4, 12), 3, 4)
        try:
            halving(matrices_of(net)[0])
        except TooSlow:
            continue
        told.append(net)
    return told


def slow_nets():
    """Nets with holds whose F halves by no power up to 60: still, loud, and with a ring."""
    keep = Form(16)
    return [direct([1], [-255], 8, keep, keep), direct([1], [-256], 8, keep, keep), direct([1], [256], 8, keep, keep),
            direct([1], [-300], 8, keep, keep), direct([1, 1], [0, 256], 8, keep, keep), rungs([16], 4, keep, keep),
            beside(echo_net(), Net([Form(8)], 0, [("in",), ("old", 0), ("keep", 0, 1)], [(0, 1, 2)], 2))]


class TransferTest(unittest.TestCase):
    def check(self, net, many=16):
        told = asked(self, transfer, net)
        self.assertIs(type(told), tuple)
        top, bottom = told
        for side in told:
            self.assertIs(type(side), list)
            self.assertEqual(len(side), len(net.holds()) + 1)
            self.assertTrue(all(is_fraction(place) for place in side))
        self.assertEqual(bottom[0], (1, 1))
        self.assertEqual(as_numbers(bottom), bottom_of(as_rows(matrices_of(net)[0])))
        self.assertEqual(as_numbers(response(top, bottom, many)), response_of(net, many))
        return told

    def test_by_hand(self):
        self.assertEqual(transfer(echo_net()), ([(1, 1), (0, 1)], [(1, 1), (-3, 4)]))
        self.assertEqual(transfer(net=holdless()[0]), ([(1, 1)], [(1, 1)]))
        keep = Form(16, 4)
        self.assertEqual(transfer(transposed([3, 5], [-1, 2], 2, Form(8), keep)),
                         ([(3, 4), (5, 4), (0, 1)], [(1, 1), (-1, 4), (1, 2)]))

    def test_builds(self):
        for net in [*built(), *slow_nets(), *holdless()]:
            self.check(net)

    def test_any_net(self):
        dice = chance(131)
        for holds in (0, 1, 2, 3, 4, 5, 6):
            for _ in range(6):
                forms = [some_form(dice) for _ in range(dice.randint(1, 4))]
                self.check(some_net(dice, forms, holds, dice.randint(4, 14)), 10)

    def test_six_holds_of_great_factors(self):
        dice = chance(132)
        for _ in range(3):
            forms = [Form(64, 64), Form(None, -64)]
            self.check(some_net(dice, forms, 6, 12, 2 ** 63 - 1, 10), 9)

    def test_values_of_the_words_are_answered_by_it(self):
        dice = chance(133)
        for net in [*built()[:8], *still_nets(134, 8)]:
            words = [some_word(dice, enter_of(net)) for _ in range(10)]
            values = as_pairs([word / Fraction(2) ** enter_of(net).point for word in words])
            noughts = (0,) * len(net.holds())
            top, bottom = transfer(net)
            self.assertEqual(answered(top, bottom, values), exact_run(net, words, noughts))

    def test_first_words_change_nothing(self):
        net = echo_net()
        other = Net(net.forms(), 0, net.rows(), [(0, 100, 4)], 4)
        self.assertEqual(transfer(other), transfer(net))
        self.assertEqual(gain(other, 7), gain(net, 7))
        self.assertEqual(drift(other), drift(net))


class GainTest(unittest.TestCase):
    def check(self, net, many):
        told = asked(self, gain, net, many)
        self.assertIs(type(told), tuple)
        self.assertTrue(is_fraction(told[0]) and is_fraction(told[1]))
        self.assertEqual((as_number(told[0]), as_number(told[1])), gain_of(net, many))
        return told

    def test_by_hand(self):
        self.assertEqual(gain(echo_net(), 1), ((1, 1), (143, 32)))
        self.assertEqual(gain(many=2, net=echo_net()), ((7, 4), (557, 128)))
        for net in holdless()[:2]:
            for many in (1, 2, 60):
                self.assertEqual(gain(net, many), ((1, 1), (1, 1)))
        self.assertEqual(gain(holdless()[2], 60), ((9, 2), (9, 2)))

    def test_every_number(self):
        for net in (echo_net(), built()[0], built()[14], holdless()[2]):
            for many in range(1, 61):
                self.check(net, many)

    def test_builds(self):
        for net in built():
            for many in (1, 2, 7, 60):
                self.check(net, many)

    def test_any_net(self):
        for net in still_nets(135, 25, (0, 1, 2, 3, 6)):
            for many in (1, 3, 60):
                self.check(net, many)

    def test_words_of_the_greatest_value(self):
        dice = chance(136)
        for net in [echo_net(), *built()[:8], *still_nets(137, 10)]:
            form = enter_of(net)
            word = 7
            value = word / Fraction(2) ** form.point
            noughts = (0,) * len(net.holds())
            for many in (1, 2, 5, 20):
                low, high = (as_number(one) for one in gain(net, many))
                signs = [1 if place >= 0 else -1 for place in response_of(net, many)][::-1]
                told = exact_run(net, [word * sign for sign in signs], noughts)
                self.assertEqual(as_number(told[-1]), value * low)
                for _ in range(3):
                    words = [dice.choice((word, -word)) for _ in range(60)]
                    for out in as_numbers(exact_run(net, words, noughts)):
                        self.assertLessEqual(abs(out), value * high)
                # Signs that suit sixty turns, more than were looked at, lead to no more than high either.
                longer = [1 if place >= 0 else -1 for place in response_of(net, 60)][::-1]
                told = exact_run(net, [word * sign for sign in longer], noughts)
                self.assertLessEqual(abs(as_number(told[-1])), value * high)

    def test_no_such_number(self):
        for net in [echo_net(), *holdless(), *slow_nets()]:
            for thing in NO_MANY:
                refusal(self, NoSeries, gain, net, thing)
                refusal(self, NoSeries, gain, many=thing, net=net)

    def test_too_slow(self):
        for net in slow_nets():
            for many in (1, 2, 60):
                self.assertEqual(refusal(self, TooSlow, gain, net, many).many, 60)

    def test_the_slowest_that_is_told(self):
        """F is 2 ** -1/60 or just below, so that its sixtieth power, and no lesser one, comes to a half."""
        rows = [("in",), ("old", 0), ("times", 1036532, 20, 1), ("plus", 0, 2), ("keep", 0, 3)]
        slow = Net([Form(None, 20)], 0, rows, [(0, 0, 4)], 4)
        self.assertEqual(halving(matrices_of(slow)[0]), 60)
        self.check(slow, 60)
        self.assertEqual(as_number(drift(slow)), drift_of(slow))


class DriftTest(unittest.TestCase):
    def check(self, net):
        told = asked(self, drift, net)
        self.assertTrue(is_fraction(told))
        self.assertEqual(as_number(told), drift_of(net))
        return as_number(told)

    def runs(self, net, dice, most):
        """How far the net and its twin part, turn by turn, until something goes over."""
        form = enter_of(net)
        state = tuple(some_word(dice, net.forms()[hold[0]], most) for hold in net.holds())
        words = [some_word(dice, form, most) for _ in range(40)]
        exact = as_numbers(exact_run(net, words, state))
        machine, parted = Machine(net, state), []
        for word, value in zip(words, exact):
            out = machine.turn(word)
            if machine.went():
                break
            parted.append(abs(out / Fraction(2) ** plain_points(net)[net.out()] - value))
        return parted

    def test_by_hand(self):
        self.assertEqual(drift(echo_net()), (143, 64))
        self.assertEqual([drift(net=net) for net in holdless()], [(0, 1), (1, 4), (0, 1)])

    def test_what_is_told(self):
        for net in [*built(), *holdless(), *still_nets(138, 40, (0, 1, 2, 3, 6))]:
            self.check(net)

    def test_each_manner(self):
        for manner, ends in itertools.product(MANNERS, ("wrap", "stop")):
            keep = Form(20, 3, manner, ends)
            for net in (direct([3, 1], [-5], 3, Form(8), keep), rungs([3, -4], 3, Form(8), keep)):
                self.check(net)

    def test_it_bounds_each_turn_while_nothing_goes_over(self):
        dice = chance(139)
        turns, farthest = 0, Fraction(0)
        for net in [*built(), *still_nets(140, 60), echo_net(), *[freed(net, net.keeps()) for net in built()[:16]]]:
            most = self.check(net)
            for size in (3, 100):
                for parted in (self.runs(net, dice, size) for _ in range(3)):
                    turns += len(parted)
                    for off in parted:
                        self.assertLessEqual(off, most)
                        farthest = max(farthest, off)
        self.assertGreater(turns, 5000)
        self.assertGreater(farthest, 0)

    def test_chains_and_nets_beside(self):
        dice = chance(141)
        nets = [net for net in built()[:16] if len(net.holds()) <= 3]
        for one, other in zip(nets, nets[2:]):
            for net in (chain(one, other), beside(one, one)):
                most = self.check(net)
                for off in self.runs(net, dice, 50):
                    self.assertLessEqual(off, most)

    def test_nothing_rounded(self):
        for net in (direct([1, 2, 3], [], 0, Form(8), Form(16)), rungs([], 5, Form(8, 2), Form(9, 2)),
                    direct([1, 2], [0], 0, Form(8), Form(16, 3, "up"))):
            self.assertEqual(drift(net), (0, 1))

    def test_too_slow(self):
        for net in slow_nets():
            self.assertEqual(refusal(self, TooSlow, drift, net).many, 60)
            self.assertEqual(refusal(self, TooSlow, drift, net=net).many, 60)

    def test_pairs(self):
        self.assertEqual(as_pair(drift_of(echo_net())), drift(echo_net()))


if __name__ == "__main__":
    unittest.main()

"""Points 2, 4, 29 and 30: exact runs, slacks, and what the numbers of a twin's turn are sums of."""

import itertools
import unittest
from fractions import Fraction

from echobound import twins
from echobound.builds import direct, rungs
from echobound.errors import BadState, NoChoice, Unfit
from echobound.forms import Form
from echobound.fractions import is_fraction
from echobound.machines import run
from echobound.matrices import is_matrix
from echobound.nets import Net
from echobound.twins import errors_of, exact_run, matrices_of, slack_of
from tests.helper import (MANNERS, Stranger, as_number, as_numbers, as_pairs, as_rows, asked, chance, check_interface,
                          dotted, echo_net, enter_of, led_by, no_numbers, no_states, no_words, plain_points, refusal,
                          some_net, some_nets, some_numbers, some_word, twin_numbers, twin_run)


class ExactRunTest(unittest.TestCase):
    def check(self, net, words, state=None):
        told = asked(self, exact_run, net, words, state)
        self.assertTrue(all(is_fraction(one) for one in told))
        self.assertEqual(as_numbers(told), twin_run(net, words, net.start() if state is None else state))
        return told

    def test_by_hand(self):
        self.assertEqual(asked(self, exact_run, echo_net(), [5, 1, 0, 0]), [(5, 1), (19, 4), (57, 16), (171, 64)])
        self.assertEqual(exact_run(state=(4,), net=echo_net(), words=[0, 127]), [(3, 1), (517, 4)])
        # Beyond both ends: nothing wraps and nothing stops.
        for ends in ("wrap", "stop"):
            net = Net([Form(4, 1, "up", ends)], 0, [("in",), ("times", 100, 0, 0), ("keep", 0, 1)], [], 2)
            self.assertEqual(exact_run(net, [7, -8, 1]), [(350, 1), (-400, 1), (50, 1)])

    def test_any_net(self):
        dice = chance(111)
        for net in some_nets(112, 60):
            words = [some_word(dice, enter_of(net)) for _ in range(8)]
            told = self.check(net, words)
            self.assertEqual(exact_run(net, words), told)
            self.check(net, words, tuple(some_word(dice, net.forms()[hold[0]]) for hold in net.holds()))

    def test_the_out_row_at_points_below_and_above_nought(self):
        for point in (-64, -2, 0, 3, 64):
            net = Net([Form(None, point)], 0, [("in",), ("keep", 0, 0)], [], 1)
            self.assertEqual(as_numbers(exact_run(net, [1, 3, -6])), [n / Fraction(2) ** point for n in (1, 3, -6)])
            self.check(net, [1, 3, -6, 0])

    def test_no_words(self):
        for net in [*some_nets(113, 6), echo_net()]:
            self.assertEqual(asked(self, exact_run, net, []), [])

    def test_two_hundred_words(self):
        self.check(echo_net(), [127, -128, 3, 0] * 50)
        net = direct([3, 1], [-7, 5], 4, Form(8), Form(16, 8))
        self.check(net, [100, -100] * 100)

    def test_long_runs_of_long_numbers_come_soon(self):
        rows = [("in",), ("old", 0), ("times", 2 ** 62 - 1, 64, 1), ("plus", 0, 2), ("keep", 0, 3)]
        net = Net([Form(64, 64)], 0, rows, [(0, 2 ** 63 - 1, 4)], 4)
        told = exact_run(net, [2 ** 63 - 1] * 190)
        self.assertEqual(len(told), 190)
        self.assertEqual(told[-1][1].bit_length() - 1, 64 * 191)

    def test_where_nothing_is_rounded_it_is_the_run(self):
        dice = chance(114)
        for _ in range(10):
            net = some_net(dice, [Form(None, 0)], 2, 8, 5, 0)
            net = Net(net.forms(), 0, [row if row[0] != "move" else ("plus", row[2], row[2]) for row in net.rows()],
                      net.holds(), net.out())
            words = [dice.randint(-50, 50) for _ in range(6)]
            self.assertEqual(exact_run(net, words), [(number, 1) for number in run(net, words)])

    def test_refused(self):
        net = Net([Form(8), Form(6, 2, "in", "stop")], 0, [("in",), ("old", 0), ("keep", 1, 0)], [(1, 5, 2)], 1)
        for thing in no_words(Form(8)):
            for at in range(3):
                words = [1, -2, 3]
                words[at] = thing
                for state in (None, (4,)):
                    self.assertEqual(refusal(self, Unfit, exact_run, net, words, state).at, at)
                    self.assertEqual(refusal(self, Unfit, exact_run, net, [*words, thing], state).at, at)
        for thing in no_states(net):
            if thing is not None:
                for words in ([], [1], ["x"]):
                    refusal(self, BadState, exact_run, net, words, thing)
                    refusal(self, BadState, exact_run, net=net, words=words, state=thing)
        # A state of the twin that is none of the net.
        refusal(self, BadState, exact_run, net, [], ((1, 2),))


class SlackTest(unittest.TestCase):
    def test_each_manner_and_point(self):
        for manner, ends, point in itertools.product(MANNERS, ("wrap", "stop"), range(-4, 5)):
            for width in (4, None):
                rows = [("in",), ("keep", 1, 0), ("times", 0, 1, 0), ("keep", 1, 2)]
                net = Net([Form(8), Form(width, point, manner, ends)], 0, rows, [], 0)
                full = (1, 2) if manner in ("half", "even", "far") else (1, 1)
                self.assertEqual(slack_of(net, 1), (0, 1) if point >= 0 else full)
                self.assertEqual(slack_of(row=3, net=net), (0, 1) if point >= 1 else full)

    def test_any_net(self):
        for net in some_nets(115, 30):
            points = plain_points(net)
            for row in net.keeps():
                form, at = net.rows()[row][1:]
                wanted = (0, 1) if points[at] <= points[row] else net.forms()[form].slack()
                self.assertEqual(slack_of(net, row), wanted)

    def test_no_keep_row(self):
        for net in [echo_net(), *some_nets(116, 5)]:
            others = [row for row in range(len(net)) if row not in net.keeps()]
            for thing in [*others, *no_numbers(len(net)), -len(net), (0, 1), Stranger()]:
                refusal(self, NoChoice, slack_of, net, thing)
                refusal(self, NoChoice, slack_of, net=net, row=thing)


class MatricesTest(unittest.TestCase):
    def check(self, net, dice):
        told = asked(self, matrices_of, net)
        self.assertIs(type(told), tuple)
        matrix, column, row, through = told
        many = len(net.holds())
        self.assertTrue(is_matrix(matrix))
        self.assertEqual(len(matrix), many)
        for line in [*matrix, column, row]:
            self.assertIs(type(line), list)
            self.assertEqual(len(line), many)
        self.assertTrue(all(is_fraction(one) for one in [*column, *row, through]))
        for _ in range(3):
            state, word = some_numbers(dice, many, 2), some_numbers(dice, 1, 2)[0]
            numbers = twin_numbers(net, state, word)
            nexts = [one + as_number(by) * word for one, by in zip(led_by(as_rows(matrix), state), column)]
            self.assertEqual(nexts, [numbers[hold[2]] for hold in net.holds()])
            self.assertEqual(dotted(as_numbers(row), state) + as_number(through) * word, numbers[net.out()])

    def test_by_hand(self):
        self.assertEqual(matrices_of(echo_net()), ([[(3, 4)]], [(1, 1)], [(3, 4)], (1, 1)))
        net = Net([Form(8)], 0, [("in",), ("times", -3, 1, 0)], [], 1)
        self.assertEqual(matrices_of(net=net), ([], [], [], (-3, 1)))

    def test_numbers_and_not_values(self):
        forms = [Form(8, 3), Form(8, 1), Form(8, -2)]
        rows = [("in",), ("old", 0), ("old", 1), ("plus", 0, 1), ("plus", 3, 2), ("keep", 1, 4), ("keep", 2, 4)]
        net = Net(forms, 0, rows, [(1, 0, 5), (2, 0, 6)], 4)
        self.assertEqual(matrices_of(net), ([[(1, 1), (8, 1)], [(1, 8), (1, 1)]], [(1, 4), (1, 32)],
                                            [(4, 1), (32, 1)], (1, 1)))

    def test_any_net(self):
        dice = chance(117)
        for net in some_nets(118, 80):
            self.check(net, dice)

    def test_no_holds_and_six(self):
        dice = chance(119)
        for holds in (0, 6):
            for net in some_nets(120, 10, (holds,)):
                self.check(net, dice)

    def test_factors_at_their_ends(self):
        end = 2 ** 63 - 1
        rows = [("in",), ("old", 0), ("times", end, 64, 1), ("times", -end, 0, 0), ("less", 2, 3), ("move", 64, 4),
                ("keep", 0, 5)]
        net = Net([Form(64, 64)], 0, rows, [(0, 0, 6)], 2)
        self.assertEqual(matrices_of(net), ([[(end, 1)]], [(2 ** 64 * end, 1)], [(end, 1)], (0, 1)))
        self.check(net, chance(121))


class ErrorsTest(unittest.TestCase):
    def check(self, net, dice):
        told = asked(self, errors_of, net)
        self.assertIs(type(told), list)
        self.assertEqual([one[0] for one in told], net.keeps())
        for one in told:
            self.assertEqual((type(one), len(one), type(one[1]), len(one[1])), (tuple, 3, list, len(net.holds())))
            self.assertTrue(all(is_fraction(part) for part in [*one[1], one[2]]))
            state, word = some_numbers(dice, len(net.holds())), some_numbers(dice, 1)[0]
            plain, off = twin_numbers(net, state, word), twin_numbers(net, state, word, (one[0], 1))
            self.assertEqual(off[one[0]] - plain[one[0]], 1)
            self.assertEqual(as_numbers(one[1]), [off[hold[2]] - plain[hold[2]] for hold in net.holds()])
            self.assertEqual(as_number(one[2]), off[net.out()] - plain[net.out()])

    def test_by_hand(self):
        self.assertEqual(errors_of(echo_net()), [(4, [(1, 1)], (1, 1))])
        self.assertEqual(errors_of(net=Net([Form(8)], 0, [("in",)], [], 0)), [])
        rows = [("in",), ("old", 0), ("keep", 1, 0), ("times", 3, 1, 2), ("plus", 3, 1), ("keep", 0, 4), ("less", 5, 2)]
        net = Net([Form(8), Form(8, 2)], 0, rows, [(0, 0, 5)], 6)
        self.assertEqual(errors_of(net), [(2, [(3, 8)], (1, 2)), (5, [(1, 1)], (4, 1))])

    def test_any_net(self):
        dice = chance(122)
        for net in some_nets(123, 60):
            self.check(net, dice)

    def test_no_holds_and_six(self):
        dice = chance(124)
        for holds in (0, 6):
            for net in some_nets(125, 10, (holds,)):
                self.check(net, dice)

    def test_one_row_for_two_holds_and_the_out_row(self):
        net = Net([Form(8)], 0, [("in",), ("keep", 0, 0), ("keep", 0, 0)], [(0, 0, 1), (0, 0, 1), (0, 0, 2)], 1)
        self.assertEqual(errors_of(net), [(1, [(1, 1), (1, 1), (0, 1)], (1, 1)), (2, [(0, 1), (0, 1), (1, 1)], (0, 1))])

    def test_rungs(self):
        dice = chance(126)
        self.check(rungs([3, -5, 7, 1, 2, -6], 3, Form(8, 1), Form(12, 4)), dice)


class InterfaceTest(unittest.TestCase):
    def test_names_and_arguments(self):
        check_interface(self, twins, {"exact_run": "(net, words, state=None)", "slack_of": "(net, row)",
                                      "drift": "(net)", "errors_of": "(net)", "matrices_of": "(net)",
                                      "transfer": "(net)", "gain": "(net, many)"})

    def test_nets_stay(self):
        net = echo_net()
        for call in (matrices_of, errors_of, twins.transfer, twins.drift):
            call(net)
        twins.gain(net, 3)
        exact_run(net, [1, 2, 3])
        self.assertTrue(net == echo_net())

    def test_pairs_in_lowest_terms(self):
        self.assertEqual(as_pairs([Fraction(6, 4)]), exact_run(Net([Form(8, 2)], 0, [("in",)], [], 0), [6]))


if __name__ == "__main__":
    unittest.main()

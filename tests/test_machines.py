"""Points 2, 4, 23, 24 and 26 to 28: turns, what goes over, runs, and machines that take turns back."""

import copy
import inspect
import itertools
import unittest
from fractions import Fraction

from echobound import machines
from echobound.errors import BadState, NoTurn, Unfit
from echobound.forms import Form
from echobound.machines import Machine, overs, run, turned
from echobound.nets import Net
from tests.helper import (MANNERS, Stranger, asked, chance, check_interface, echo_net, enter_of, no_states,
                          no_words, other_kinds, plain_kept, plain_run, plain_turn, refusal, some_form, some_net,
                          some_nets, some_word)


def mixed_net():
    """A net with a row of every kind, forms of unlike points, and three holds."""
    forms = [Form(4, 1, "even", "wrap"), Form(5, -1, "down", "stop"), Form(None, 3, "out", "stop")]
    rows = [("in",), ("old", 0), ("old", 1), ("old", 2), ("times", -5, 3, 1), ("plus", 0, 4), ("less", 2, 5),
            ("move", 1, 6), ("keep", 0, 7), ("keep", 1, 5), ("times", 3, 1, 3), ("plus", 10, 9), ("keep", 2, 11)]
    return Net(forms, 0, rows, [(0, 3, 8), (1, -16, 9), (2, 40, 12)], 11)


def some_words(dice, net, many):
    return [some_word(dice, enter_of(net)) for _ in range(many)]


class TurnTest(unittest.TestCase):
    def check(self, net, state, word):
        numbers, after, went = plain_turn(net, state, word)
        told = asked(self, turned, net, state, word)
        self.assertEqual(told, (numbers, after))
        self.assertEqual((type(told), type(told[0]), type(told[1])), (tuple, list, tuple))
        self.assertEqual(asked(self, overs, net, numbers), went)
        return (numbers, after, went)

    def test_the_document_s_example(self):
        self.assertEqual(asked(self, run, echo_net(), [5, 1, 0, 0]), [5, 5, 4, 3])
        self.assertEqual(turned(echo_net(), (0,), 5), ([5, 0, 0, 20, 5], (5,)))
        self.assertEqual(turned(word=1, state=(5,), net=echo_net()), ([1, 5, 15, 19, 5], (5,)))

    def test_by_hand(self):
        numbers, after = turned(mixed_net(), (3, -16, 40), 7)
        # in 7/2, olds 3/2 and -32 and 5; -5/8 of 3/2 is -15/16; 7/2 and that is 41/16; -32 less that is -553/16;
        # twice that is -553/8, in halves -138.25; 41/16 in twos is 1.28; three halves of 5 are 15/2.
        self.assertEqual(numbers[:8], [7, 3, -16, 40, -15, 41, -553, -553])
        self.assertEqual(numbers[8:], [6, 1, 120, 152, 76])
        self.assertEqual(after, (6, 1, 76))
        self.assertEqual(overs(mixed_net(), numbers), [8])
        self.check(mixed_net(), (3, -16, 40), 7)

    def test_each_kind_of_row_alone(self):
        for row, wanted in [(("in",), -5), (("old", 0), 7), (("times", 3, 4, 0), -15), (("times", -3, 0, 1), -21),
                            (("plus", 0, 1), -5 + 28), (("less", 0, 1), -5 - 28), (("less", 1, 0), 28 + 5),
                            (("plus", 1, 1), 14), (("less", 0, 0), 0), (("move", 9, 0), -5), (("move", -9, 1), 7),
                            (("keep", 1, 0), -1), (("keep", 0, 1), 28), (("keep", 1, 1), 7)]:
            net = Net([Form(8, 2), Form(8)], 0, [("in",), ("old", 0), row, ("keep", 1, 0)], [(1, 7, 3)], 2)
            self.assertEqual(self.check(net, (7,), -5)[0][2], wanted, row)

    def test_factors_at_their_ends(self):
        end = 2 ** 63 - 1
        net = Net([Form(64)], 0, [("in",), ("times", end, 64, 0), ("times", -end, 64, 1), ("plus", 0, 2)], [], 3)
        for word in (1, -1, 0, 2 ** 63 - 1, -2 ** 63):
            numbers = self.check(net, (), word)[0]
            self.assertEqual(numbers, [word, end * word, -end * end * word, word * 2 ** 128 - end * end * word])

    def test_rows_at_points_far_apart(self):
        rows = [("in",)] + [("move", 64, at) for at in range(3)] + [("move", -64, 0), ("move", -64, 4),
                                                                    ("move", -64, 5), ("plus", 3, 6), ("less", 6, 3),
                                                                    ("keep", 0, 7), ("keep", 1, 8)]
        net = Net([Form(8), Form(8, 0, "up", "stop")], 0, rows, [], 9)
        for word in (1, -1, 0, 127, -128):
            numbers = self.check(net, (), word)[0]
            self.assertEqual(numbers[7], word * 2 ** 384 + word)

    def test_keep_by_each_manner(self):
        for manner, ends, point in itertools.product(MANNERS, ("wrap", "stop"), (-2, 0, 1, 3)):
            for width in (3, 4, None):
                form = Form(width, point, manner, ends)
                net = Net([Form(16, 2), form], 0, [("in",), ("keep", 1, 0)], [], 1)
                for word in range(-70, 71):
                    numbers, after, went = self.check(net, (), word)
                    kept, beyond = form.kept((word, 4) if word % 2 else (word // 2, 2) if word % 4 else (word // 4, 1))
                    self.assertEqual((numbers[1], went), (kept, [1] if beyond else []))
                    if width is None:
                        self.assertEqual(went, [])

    def test_keep_at_points_far_apart(self):
        for manner, ends, width in itertools.product(MANNERS, ("wrap", "stop"), (2, 64, None)):
            rows = [("in",), ("times", 5, 64, 0), ("move", -64, 1), ("keep", 1, 2), ("keep", 2, 2), ("keep", 2, 0),
                    ("keep", 1, 0)]
            net = Net([Form(64), Form(width, -64, manner, ends), Form(width, 64, manner, ends)], 0, rows, [], 0)
            for word in (0, 1, -1, 2 ** 63 - 1, -2 ** 63):
                self.check(net, (), word)

    def test_any_net(self):
        dice = chance(91)
        for net in some_nets(90, 120):
            state = net.start()
            for word in some_words(dice, net, 4):
                state = self.check(net, state, word)[1]

    def test_six_holds_and_sixty_rows(self):
        dice = chance(92)
        for _ in range(10):
            forms = [some_form(dice) for _ in range(12)]
            net = some_net(dice, forms, 6, 60 - 13)
            self.assertEqual(len(net), 60)
            self.check(net, net.start(), some_words(dice, net, 1)[0])

    def test_states_that_never_come(self):
        for state in itertools.product((-8, 7), (-16, 15), (-10 ** 399, 10 ** 399)):
            self.check(mixed_net(), state, -8)

    def test_overs_rise_and_are_keeps_alone(self):
        rows = [("in",), ("keep", 1, 0), ("times", 100, 0, 0), ("keep", 0, 2), ("keep", 1, 2), ("keep", 2, 2),
                ("keep", 1, 1)]
        net = Net([Form(8), Form(4), Form(4, 0, "half", "stop")], 0, rows, [], 0)
        for word, wanted in ((0, []), (1, [4, 5]), (2, [3, 4, 5]), (7, [3, 4, 5]), (8, [1, 3, 4, 5]), (-8, [3, 4, 5]),
                             (-9, [1, 3, 4, 5])):
            numbers = turned(net, (), word)[0]
            self.assertEqual(asked(self, overs, net=net, numbers=numbers), wanted)
            self.assertEqual(plain_turn(net, (), word)[2], wanted)

    def test_no_state(self):
        for net in (mixed_net(), echo_net(), Net([Form(8)], 0, [("in",)], [], 0)):
            for thing in no_states(net):
                for word in (1, 8000, None, "x"):
                    refusal(self, BadState, turned, net, thing, word)
                refusal(self, BadState, turned, net=net, state=thing, word=None)

    def test_no_word(self):
        for net in (mixed_net(), echo_net(), Net([Form()], 0, [("in",)], [], 0)):
            for thing in no_words(enter_of(net)):
                self.assertEqual(refusal(self, Unfit, turned, net, net.start(), thing).at, 0)
                self.assertEqual(refusal(self, Unfit, turned, net=net, state=net.start(), word=thing).at, 0)


class RunTest(unittest.TestCase):
    def check(self, net, words, state=None):
        wanted = [numbers[net.out()] for numbers, went in plain_run(net, words, state)]
        self.assertEqual(asked(self, run, net, words, state), wanted)
        return wanted

    def test_any_net(self):
        dice = chance(93)
        for net in some_nets(94, 50):
            words = some_words(dice, net, 12)
            wanted = self.check(net, words)
            self.assertEqual(run(net, words), wanted)
            self.assertEqual(run(state=net.start(), words=words, net=net), wanted)
            state = tuple(some_word(dice, net.forms()[hold[0]]) for hold in net.holds())
            self.check(net, words, state)

    def test_no_words_at_all(self):
        for net in [*some_nets(95, 10), echo_net()]:
            self.assertEqual(asked(self, run, net, []), [])
            self.assertEqual(asked(self, run, net, [], net.start()), [])

    def test_two_hundred_words(self):
        self.check(echo_net(), [127, -128] * 100)
        self.check(mixed_net(), [7, -8, 3, 0] * 50)

    def test_each_turn_begins_where_the_last_one_ended(self):
        net = mixed_net()
        words = [1, -8, 7, 0, 5]
        state, told = net.start(), []
        for word in words:
            numbers, state = turned(net, state, word)
            told.append(numbers[net.out()])
        self.assertEqual(run(net, words), told)

    def test_refused(self):
        for net in (mixed_net(), echo_net(), Net([Form()], 0, [("in",)], [], 0)):
            for thing in no_words(enter_of(net)):
                for at in range(4):
                    words = [1, 0, -1, 2]
                    words[at] = thing
                    for state in (None, net.start()):
                        self.assertEqual(refusal(self, Unfit, run, net, words, state).at, at)
                        self.assertEqual(refusal(self, Unfit, run, net, [*words, thing, "x"], state).at, at)
            for thing in no_states(net):
                if thing is not None:
                    for words in ([], [1], ["x"], [0, 1, None]):
                        refusal(self, BadState, run, net, words, thing)
                        refusal(self, BadState, run, state=thing, net=net, words=words)

    def test_what_is_handed_in_stays(self):
        words = [1, 2, None]
        refusal(self, Unfit, run, echo_net(), words)
        self.assertEqual(words, [1, 2, None])


def seen(machine):
    return (machine.state(), machine.turns(), machine.numbers(), machine.overs(), machine.went())


class MachineTest(unittest.TestCase):
    def wanted(self, net, words, state=None):
        """What a machine tells behind these turns."""
        now = net.start() if state is None else state
        numbers, last, went = [], [], []
        for turn, word in enumerate(words):
            numbers, now, last = plain_turn(net, now, word)
            went += [(turn + 1, row) for row in last]
        return (now, len(words), numbers, last, went)

    def check(self, machine, wanted):
        self.assertEqual(seen(machine), wanted)
        self.assertIs(type(machine.state()), tuple)
        for call in (machine.numbers, machine.overs, machine.went):
            self.assertIs(type(asked(self, call)), list)
        self.assertEqual(seen(machine), wanted)

    def test_at_first(self):
        for net in [*some_nets(96, 5), echo_net(), mixed_net()]:
            self.check(Machine(net), (net.start(), 0, [], [], []))
            self.check(Machine(state=net.start(), net=net), (net.start(), 0, [], [], []))
        self.check(Machine(mixed_net(), (-8, 15, 10 ** 30)), ((-8, 15, 10 ** 30), 0, [], [], []))

    def test_turns(self):
        dice = chance(97)
        for net in [*some_nets(98, 25), mixed_net()]:
            state = tuple(some_word(dice, net.forms()[hold[0]]) for hold in net.holds())
            words = some_words(dice, net, 9)
            for first in (None, state):
                machine = Machine(net, first)
                for at, word in enumerate(words):
                    self.assertEqual(machine.turn(word), plain_run(net, words, first)[at][0][net.out()])
                    self.check(machine, self.wanted(net, words[:at + 1], first))

    def test_went_by_hand(self):
        machine = Machine(echo_net())
        self.assertEqual([machine.turn(word=word) for word in (127, 127, 0, 127)], [127, -34, -25, 108])
        self.assertEqual(machine.went(), [(2, 4)])
        self.assertEqual(machine.overs(), [])
        self.assertEqual([machine.turn(word) for word in (127, 127)], [-48, 91])
        self.assertEqual(machine.went(), [(2, 4), (5, 4)])
        machine.back()
        self.assertEqual(machine.overs(), [4])

    def test_refused_turns(self):
        for net in (mixed_net(), echo_net()):
            machine = Machine(net)
            for many in range(4):
                before = seen(machine)
                for thing in no_words(enter_of(net)):
                    self.assertEqual(refusal(self, Unfit, machine.turn, thing).at, 0)
                    self.assertEqual(refusal(self, Unfit, machine.turn, word=thing).at, 0)
                    self.assertEqual(seen(machine), before)
                machine.turn(many)

    def test_no_state(self):
        for net in (mixed_net(), echo_net(), Net([Form(8)], 0, [("in",)], [], 0)):
            for thing in no_states(net):
                if thing is not None:
                    refusal(self, BadState, Machine, net, thing)
                    refusal(self, BadState, Machine, state=thing, net=net)

    def test_back(self):
        dice = chance(99)
        for net in [*some_nets(100, 10), mixed_net()]:
            words = some_words(dice, net, 8)
            for many in range(9):
                machine = Machine(net)
                for word in words:
                    machine.turn(word)
                self.assertIsNone(machine.back(many))
                self.check(machine, self.wanted(net, words[:8 - many]))
                for word in words[::-1]:
                    machine.turn(word)
                self.check(machine, self.wanted(net, words[:8 - many] + words[::-1]))

    def test_back_by_one_is_left_out(self):
        machine = Machine(mixed_net())
        for word in (1, 2, 3):
            machine.turn(word)
        self.assertIsNone(machine.back())
        self.check(machine, self.wanted(mixed_net(), [1, 2]))
        machine.back(many=2)
        self.check(machine, self.wanted(mixed_net(), []))
        machine.back(0)
        self.check(machine, self.wanted(mixed_net(), []))

    def test_back_by_what_is_no_such_number(self):
        for made in (0, 1, 5):
            machine = Machine(mixed_net(), (0, 1, 2))
            for word in range(made):
                machine.turn(word)
            before = seen(machine)
            for thing in [-1, made + 1, made + 2, 10 ** 30, -made - 1, "1", "", *other_kinds()]:
                self.assertEqual(refusal(self, NoTurn, machine.back, thing).many, made)
                self.assertEqual(refusal(self, NoTurn, machine.back, many=thing).many, made)
                self.assertEqual(seen(machine), before)
            if not made:
                self.assertEqual(refusal(self, NoTurn, machine.back).many, 0)
        machine = Machine(echo_net())
        for word in (1, 2, 3):
            machine.turn(word)
        machine.back(2)
        self.assertEqual(refusal(self, NoTurn, machine.back, 2).many, 1)

    def test_twins_go_their_own_way(self):
        net = mixed_net()
        machine = Machine(net, (-8, 0, 9))
        for word in (7, 7, -8):
            machine.turn(word)
        twin = machine.twin()
        self.assertIs(type(twin), Machine)
        self.check(twin, self.wanted(net, [7, 7, -8], (-8, 0, 9)))
        self.assertEqual(twin.turn(3), plain_run(net, [7, 7, -8, 3], (-8, 0, 9))[-1][0][net.out()])
        self.check(machine, self.wanted(net, [7, 7, -8], (-8, 0, 9)))
        machine.back(2)
        self.check(twin, self.wanted(net, [7, 7, -8, 3], (-8, 0, 9)))
        machine.turn(1)
        self.check(machine, self.wanted(net, [7, 1], (-8, 0, 9)))
        twin.back(4)
        self.check(twin, self.wanted(net, [], (-8, 0, 9)))
        self.check(machine, self.wanted(net, [7, 1], (-8, 0, 9)))
        other = machine.twin().twin()
        other.back(2)
        self.check(other, self.wanted(net, [], (-8, 0, 9)))
        self.check(machine, self.wanted(net, [7, 1], (-8, 0, 9)))

    def test_two_machines_of_one_net(self):
        net = mixed_net()
        one, other = Machine(net), Machine(net)
        one.turn(5)
        self.check(other, self.wanted(net, []))
        self.check(one, self.wanted(net, [5]))

    def test_a_thousand_turns(self):
        dice = chance(101)
        net = echo_net()
        words = [dice.randint(-128, 127) for _ in range(1000)]
        machine = Machine(net)
        self.assertEqual([machine.turn(word) for word in words], run(net, words))
        self.check(machine, self.wanted(net, words))
        twin = machine.twin()
        machine.back(999)
        self.check(machine, self.wanted(net, words[:1]))
        self.assertEqual(twin.turns(), 1000)
        twin.back(1000)
        self.check(twin, self.wanted(net, []))
        self.assertEqual(refusal(self, NoTurn, twin.back).many, 0)

    def test_nets_stay(self):
        net = mixed_net()
        before = copy.deepcopy(net)
        machine = Machine(net)
        machine.turn(3)
        machine.back()
        run(net, [1, 2])
        self.assertTrue(net == before)

    def test_wide_numbers(self):
        net = Net([Form(None, 3, "even", "stop")], 0, [("in",), ("old", 0), ("times", 2 ** 62, 5, 1), ("plus", 0, 2),
                                                       ("keep", 0, 3)], [(0, 1, 4)], 4)
        machine = Machine(net, (10 ** 399,))
        for word in (10 ** 399, -10 ** 399, 7):
            machine.turn(word)
        self.check(machine, self.wanted(net, [10 ** 399, -10 ** 399, 7], (10 ** 399,)))


class FormsKeepTest(unittest.TestCase):
    def test_the_plain_way_keeps_as_forms_do(self):
        """The way by which these tests reckon agrees with the forms that other tests looked at."""
        dice = chance(102)
        for _ in range(300):
            form = some_form(dice)
            word = dice.randint(-300, 300)
            net = Net([Form(None, 4), form], 0, [("in",), ("keep", 1, 0)], [], 1)
            value = Form(None, 4).value(word)
            self.assertEqual(form.kept(value)[0], turned(net, (), word)[0][1])
            self.assertEqual(form.kept(value), plain_kept(form, Fraction(word, 16)))


class InterfaceTest(unittest.TestCase):
    def test_names_and_arguments(self):
        check_interface(self, machines, {"turned": "(net, state, word)", "overs": "(net, numbers)",
                                         "run": "(net, words, state=None)", "Machine": "(net, state=None)"})
        for name, arguments in {"turn": "(self, word)", "turns": "(self)", "state": "(self)", "numbers": "(self)",
                                "overs": "(self)", "went": "(self)", "back": "(self, many=1)",
                                "twin": "(self)"}.items():
            self.assertEqual(str(inspect.signature(vars(Machine)[name])), arguments)

    def test_strangers_are_no_words(self):
        self.assertEqual(refusal(self, Unfit, run, echo_net(), [0, Stranger()]).at, 1)


if __name__ == "__main__":
    unittest.main()

"""Points 2, 3, 4 and 36 to 38: the states that words lead to, ways, least and greatest numbers, and closed lists."""

import inspect
import itertools
import unittest

from echobound import reach
from echobound.errors import NoState, NoWords, TooMany
from echobound.forms import Form
from echobound.machines import Machine, turned
from echobound.nets import Net
from echobound.reach import Reach, is_closed
from tests.helper import (Stranger, asked, chance, check_interface, counter, echo_net, enter_of, no_numbers, no_states,
                          no_word_lists, other_kinds, plain_run, plain_turn, refusal, some_nets, some_word, some_words)

NO_MOST = [0, -1, 601, 602, 10 ** 30, -300, "300", "", *other_kinds()]


def small_nets(seed, many):
    """Nets with few states."""
    return some_nets(seed, many, (0, 1, 2), (2, 3), (-1, 0, 1, 2), 9)


def word_lists(dice, net, many=3):
    """Lists of words of the net, no two alike in one."""
    return [some_words(dice, net, 9) for _ in range(many)]


def plain_reach(net, words):
    """The states in their order, each with its way, and all turns (state's place, word, numbers, next, went)."""
    states, ways, turns = [net.start()], [[]], []
    at = 0
    while at < len(states):
        for word in words:
            numbers, after, went = plain_turn(net, states[at], word)
            turns.append((at, word, numbers, after, went))
            if after not in states:
                states.append(after)
                ways.append(ways[at] + [word])
        at += 1
    return (states, ways, turns)


class ReachTest(unittest.TestCase):
    def check(self, net, words, most=None):
        states, ways, turns = plain_reach(net, words)
        told = Reach(net, words) if most is None else Reach(net, words, most)
        self.assertEqual(asked(self, told.states), states)
        self.assertEqual(asked(self, told.words), words)
        self.assertEqual(len(told), len(states))
        for at, state in enumerate(states):
            self.assertEqual(asked(self, told.way_to, state), ways[at])
            nexts = [after for place, word, numbers, after, went in turns if place == at]
            self.assertEqual(asked(self, told.nexts, state), nexts)
        for row in range(len(net)):
            column = [numbers[row] for place, word, numbers, after, went in turns]
            for call, number in ((told.least, min(column)), (told.greatest, max(column))):
                place, word = turns[column.index(number)][:2]
                answer = asked(self, call, row)
                self.assertEqual(answer, (number, ways[place] + [word]))
                self.assertEqual((type(answer), type(answer[1])), (tuple, list))
                self.assertEqual(plain_run(net, answer[1])[-1][0][row], number)
            over = [(place, word) for place, word, numbers, after, went in turns if row in went]
            answer = asked(self, told.way_over, row)
            self.assertEqual(answer, ways[over[0][0]] + [over[0][1]] if over else None)
        self.assertIs(is_closed(net, words, states), True)
        return told

    def test_by_hand(self):
        told = self.check(echo_net(), [0, 1, -1])
        self.assertEqual(told.states(), [(0,), (1,), (-1,), (2,), (-2,), (3,)])
        self.assertEqual(told.way_to((3,)), [1, 1, 1])
        self.assertEqual(told.nexts((3,)), [(2,), (3,), (1,)])
        self.assertEqual((told.least(4), told.greatest(4)), ((-2, [-1, -1]), (3, [1, 1, 1])))
        self.assertIsNone(told.way_over(4))
        told = self.check(echo_net(), [100])
        self.assertEqual(told.way_over(4), [100, 100])

    def test_the_order_of_the_words(self):
        self.assertEqual(Reach(counter(3), [1, -1]).states(), [(0,), (1,), (-1,), (2,), (-2,), (3,), (-3,), (-4,)])
        self.assertEqual(Reach(counter(3), [-1, 1]).states(), [(0,), (-1,), (1,), (-2,), (2,), (-3,), (3,), (-4,)])
        self.assertEqual(Reach(words=[-1, 1], net=counter(3), most=8).way_to((-4,)), [-1, -1, -1, -1])

    def test_any_net(self):
        dice = chance(181)
        for net in small_nets(182, 50):
            for words in word_lists(dice, net):
                self.check(net, words)

    def test_one_word_and_nine(self):
        for words in ([3], list(range(-4, 5)), [7, -8, 0, 1, 2, 3, -1, -2, -3]):
            told = self.check(counter(4, "stop"), words)
            self.assertEqual(told.words(), words)

    def test_no_holds(self):
        net = Net([Form(4), Form(3, 0, "half", "stop")], 0, [("in",), ("keep", 1, 0)], [], 1)
        told = self.check(net, [1, 5, -8, 0], 1)
        self.assertEqual((told.states(), len(told), told.way_to(()), told.nexts(())), ([()], 1, [], [()] * 4))
        self.assertEqual((told.least(1), told.greatest(1), told.way_over(1)), ((-4, [-8]), (3, [5]), [5]))

    def test_three_holds_and_forms_without_a_width(self):
        forms = [Form(), Form(2, 0, "half", "stop"), Form(None, 1, "in")]
        rows = [("in",), ("old", 0), ("old", 1), ("old", 2), ("times", 1, 1, 1), ("plus", 4, 0), ("keep", 2, 5),
                ("plus", 2, 0), ("keep", 1, 7), ("less", 3, 8), ("keep", 0, 9)]
        net = Net(forms, 0, rows, [(0, 5, 10), (1, -1, 8), (2, 9, 6)], 9)
        self.check(net, [0, 1, -1], 600)

    def test_wide_numbers(self):
        rows = [("in",), ("old", 0), ("times", 2 ** 63 - 1, 0, 1), ("keep", 0, 2)]
        net = Net([Form(64)], 0, rows, [(0, 2 ** 62, 3)], 2)
        self.check(net, [2 ** 63 - 1, -2 ** 63])

    def test_no_shorter_row_of_words(self):
        """All rows of words up to five, one by one."""
        dice = chance(183)
        for net in small_nets(184, 25):
            form = enter_of(net)
            words = dice.sample(range(form.least(), form.greatest() + 1), 2)
            told = Reach(net, words)
            shortest, least, greatest, over = {net.start(): 0}, {}, {}, {}
            for many in range(1, 6):
                for row in itertools.product(words, repeat=many):
                    machine = Machine(net)
                    for word in row:
                        machine.turn(word)
                    shortest.setdefault(machine.state(), many)
                    for at, number in enumerate(machine.numbers()):
                        self.assertLessEqual(told.least(at)[0], number)
                        self.assertLessEqual(number, told.greatest(at)[0])
                        least.setdefault((at, number), many)
                    for at in machine.overs():
                        over.setdefault(at, many)
            for state, many in shortest.items():
                self.assertEqual(len(told.way_to(state)), many)
            for at in range(len(net)):
                for number, way in (told.least(at), told.greatest(at)):
                    self.assertEqual(least.get((at, number), len(way)), len(way))
                    self.assertTrue(len(way) > 5 or (at, number) in least)
                way = told.way_over(at)
                self.assertEqual(over.get(at), len(way) if way is not None and len(way) <= 5 else None)

    def test_longer_runs_stay_within(self):
        dice = chance(185)
        for net in small_nets(186, 10):
            words = word_lists(dice, net, 1)[0]
            told = Reach(net, words)
            for numbers, went in plain_run(net, [dice.choice(words) for _ in range(200)]):
                for row, number in enumerate(numbers):
                    self.assertTrue(told.least(row)[0] <= number <= told.greatest(row)[0])
                for row in went:
                    self.assertIsNotNone(told.way_over(row))

    def test_way_over_by_hand(self):
        net = Net([Form(8), Form(4), Form(4, 0, "half", "stop")], 0,
                  [("in",), ("old", 0), ("plus", 0, 1), ("keep", 1, 2), ("keep", 2, 2), ("keep", 0, 2)], [(1, 0, 3)], 5)
        told = self.check(net, [3, -3])
        self.assertEqual(told.way_over(3), [3, 3, 3])
        self.assertEqual(told.way_over(4), [3, 3, 3])
        self.assertEqual([told.way_over(row) for row in (0, 1, 2, 5)], [None] * 4)

    def test_what_never_goes_over(self):
        for ends in ("wrap", "stop"):
            net = Net([Form(4, 0, "half", ends)], 0, [("in",), ("old", 0), ("times", 1, 1, 1), ("plus", 0, 2),
                                                      ("keep", 0, 3)], [(0, 0, 4)], 4)
            self.assertIsNone(self.check(net, [-3, 0, 3]).way_over(4))
            self.assertIsNotNone(self.check(net, [-3, 0, 4]).way_over(4))


class MostTest(unittest.TestCase):
    def test_left_out(self):
        net = counter(9)
        self.assertEqual(refusal(self, TooMany, Reach, net, [1]).many, 300)
        self.assertEqual(len(Reach(net, [1], 512)), 512)
        self.assertEqual(len(Reach(counter(8), [1])), 256)

    def test_just_where_more_would_come(self):
        for words in ([1], [3, -3], [1, -2, 3, -4]):
            for most in range(1, 16):
                self.assertEqual(refusal(self, TooMany, Reach, counter(4), words, most).many, most)
            for most in (16, 17, 599, 600):
                self.assertEqual(len(Reach(counter(4), words, most)), 16)
        for most in (1, 2, 299, 300, 599, 600):
            self.assertEqual(refusal(self, TooMany, Reach, counter(), [1], most).many, most)
            self.assertEqual(refusal(self, TooMany, Reach, most=most, words=[1, 0], net=counter()).many, most)
        self.assertEqual(len(Reach(counter(4), [0], 1)), 1)
        self.assertEqual(len(Reach(counter(4), [0, -8], 2)), 2)
        self.assertEqual(refusal(self, TooMany, Reach, counter(4), [0, -8], 1).many, 1)

    def test_exactly_three_hundred_and_six_hundred(self):
        def ring(many):
            """Counts up to so many, and stays."""
            keep = Form(None, 0, "half", "stop")
            stop = Form(16, 0, "half", "stop")
            rows = [("in",), ("old", 0), ("plus", 0, 1), ("keep", 1, 2)]
            return Net([keep, stop], 0, rows, [(1, 2 ** 15 - many, 3)], 3)

        for many in (300, 600):
            self.assertEqual(len(Reach(ring(many), [1], many)), many)
            self.assertEqual(refusal(self, TooMany, Reach, ring(many), [1], many - 1).many, many - 1)
        self.assertEqual(len(Reach(ring(300), [1])), 300)
        self.assertEqual(refusal(self, TooMany, Reach, ring(301), [1]).many, 300)
        self.assertEqual(refusal(self, TooMany, Reach, ring(601), [1], 600).many, 600)

    def test_no_most(self):
        for thing in NO_MOST:
            for net in (counter(4), counter()):
                refusal(self, NoWords, Reach, net, [1], thing)
                refusal(self, NoWords, Reach, most=thing, words=[1], net=net)

    def test_no_words(self):
        for net in (counter(4), echo_net(), Net([Form(8), Form(3)], 1, [("in",)], [], 0)):
            for thing in no_word_lists(enter_of(net)):
                refusal(self, NoWords, Reach, net, thing)
                refusal(self, NoWords, Reach, words=thing, net=net, most=1)
                refusal(self, NoWords, Reach, net, thing, 0)
                refusal(self, NoWords, is_closed, net, thing, [net.start()])
                refusal(self, NoWords, is_closed, net=net, words=thing, states=None)

    def test_no_words_of_a_form_without_a_width(self):
        for thing in (["1"], [True], [None], [0, False], [(1, 2)], [10 ** 399, 10 ** 399]):
            refusal(self, NoWords, Reach, counter(), thing)
        self.assertEqual(refusal(self, TooMany, Reach, counter(), [10 ** 399]).many, 300)


class RefusedTest(unittest.TestCase):
    def test_no_state_of_the_list(self):
        net = counter(4)
        told = Reach(net, [4, -4])
        self.assertEqual(told.states(), [(0,), (4,), (-4,), (-8,)])
        for thing in [*no_states(net), (1,), (7,), (-1,), (8,), (False,), (0, 0), [0], "0", (-8, 0)]:
            for call in (told.way_to, told.nexts):
                refusal(self, NoState, call, thing)
                refusal(self, NoState, call, state=thing)
        self.assertEqual(told.way_to(state=(-8,)), [4, 4])
        self.assertEqual(told.nexts(state=(-8,)), [(-4,), (4,)])

    def test_truths_are_no_words_of_a_state(self):
        net = Net([Form(2), Form(2)], 0, [("in",), ("keep", 0, 0), ("keep", 1, 0)], [(0, 0, 1), (1, 1, 2)], 0)
        told = Reach(net, [0, 1])
        for thing in ((False, True), (0, True), (False, 1), (True, True)):
            refusal(self, NoState, told.way_to, thing)
            refusal(self, NoState, told.nexts, thing)
        self.assertEqual(told.way_to((0, 1)), [])

    def test_no_row(self):
        told = Reach(echo_net(), [1])
        for thing in [*no_numbers(5), -5, (4,), Stranger()]:
            for call in (told.least, told.greatest, told.way_over):
                refusal(self, NoState, call, thing)
                refusal(self, NoState, call, row=thing)
        self.assertEqual(told.least(row=0), (1, [1]))
        self.assertEqual(told.greatest(row=0), (1, [1]))
        self.assertIsNone(told.way_over(row=0))

    def test_refusals_change_nothing(self):
        told = Reach(echo_net(), [0, 1])
        before = (told.states(), told.words(), told.least(4), told.greatest(4), told.way_over(4))
        refusal(self, NoState, told.way_to, (99,))
        refusal(self, NoState, told.least, 5)
        self.assertEqual((told.states(), told.words(), told.least(4), told.greatest(4), told.way_over(4)), before)

    def test_words_done_to_behind_the_call(self):
        words = [0, 1]
        told = Reach(echo_net(), words)
        words.append(100)
        self.assertEqual(told.words(), [0, 1])
        self.assertEqual(told.nexts((0,)), [(0,), (1,)])
        self.assertEqual(told.states(), Reach(echo_net(), [0, 1]).states())


class ClosedTest(unittest.TestCase):
    def test_in_any_order_and_some_twice(self):
        dice = chance(187)
        for net in small_nets(188, 15):
            for words in word_lists(dice, net, 2):
                states = Reach(net, words).states()
                shuffled = dice.sample(states, len(states))
                for given in (states, states[::-1], shuffled, states + states, [*shuffled, states[-1], states[0]]):
                    self.assertIs(asked(self, is_closed, net, words, given), True)

    def test_one_left_out(self):
        dice = chance(189)
        left_out = 0
        for net in [*small_nets(190, 30), counter(4), echo_net()]:
            words = word_lists(dice, net, 1)[0]
            states = Reach(net, words).states()
            for at in range(len(states)):
                self.assertIs(asked(self, is_closed, net, words, states[:at] + states[at + 1:]), False)
                left_out += 1
        self.assertGreater(left_out, 50)

    def test_more_states_than_are_reached(self):
        net = counter(4)
        self.assertIs(is_closed(net, [8 - 16], [(0,), (-8,)]), True)
        self.assertIs(is_closed(net, [-8], [(0,), (-8,), (1,)]), False)
        self.assertIs(is_closed(net, [-8], [(1,), (0,), (-7,), (-8,)]), True)
        self.assertIs(is_closed(net, [-8], [(1,), (-7,)]), False)
        self.assertIs(is_closed(states=[(0,)], words=[0], net=net), True)
        self.assertIs(is_closed(counter(), [0], [(0,), (10 ** 399,)]), True)
        self.assertIs(is_closed(counter(), [0, 1], [(0,), (10 ** 399,)]), False)

    def test_against_each_set_of_states(self):
        net = counter(2, "stop")
        for many in range(5):
            for states in itertools.combinations([(word,) for word in range(-2, 2)], many):
                for words in ([0], [1], [-1], [1, -1], [-2, 0]):
                    wanted = (0,) in states and all(turned(net, state, word)[1] in states
                                                    for state in states for word in words)
                    self.assertIs(is_closed(net, words, list(states)), wanted)

    def test_what_is_no_list_of_states(self):
        net = counter(4)
        for thing in [*other_kinds(), "", 0, ((0,),), {(0,): True}, {(0,)}, [0], [[0]], [(0,), 0], [(0,), None],
                      [(0,), Stranger()], [Stranger()], [(0,), (Stranger(),)], [(0,), [0]], [(False,)],
                      [(0,), (False,)], [(0,), (8,)], [(0,), (-9,)], [(0,), (0, 0)], [(0,), ()], [()],
                      [(0,), ("0",)], [(0,), (None,)], [(0,), ([],)], [(0,), ((0,),)], Reach(net, [0])]:
            self.assertIs(is_closed(net, [0], thing), False, thing)
        for thing in no_states(net):
            self.assertIs(is_closed(net, [0], [(0,), thing]), False)
            self.assertIs(is_closed(net, [0], [thing]), False)
        within = []
        within.append(within)
        self.assertIs(is_closed(net, [0], within), False)

    def test_no_holds(self):
        net = Net([Form(4)], 0, [("in",)], [], 0)
        self.assertIs(is_closed(net, [1], [()]), True)
        self.assertIs(is_closed(net, [1], [(), ()]), True)
        self.assertIs(is_closed(net, [1], []), False)
        self.assertIs(is_closed(net, [1], [(0,)]), False)
        self.assertIs(is_closed(net, [1], ()), False)


class InterfaceTest(unittest.TestCase):
    def test_names_and_arguments(self):
        check_interface(self, reach, {"Reach": "(net, words, most=300)", "is_closed": "(net, words, states)"})
        for name, arguments in {"states": "(self)", "words": "(self)", "way_to": "(self, state)",
                                "nexts": "(self, state)", "least": "(self, row)", "greatest": "(self, row)",
                                "way_over": "(self, row)", "__len__": "(self)"}.items():
            self.assertEqual(str(inspect.signature(vars(Reach)[name])), arguments)

    def test_the_net_stays(self):
        net = echo_net()
        told = Reach(net, [1, 2])
        told.least(1), told.greatest(1), told.way_over(4), is_closed(net, [1], [(0,)])
        self.assertTrue(net == echo_net())

    def test_words_may_be_any_of_the_form(self):
        dice = chance(191)
        for net in some_nets(192, 5, widths=(64, 8)):
            word = some_word(dice, enter_of(net), 2 ** 63)
            try:
                self.assertEqual(Reach(net, [word], 600).words(), [word])
            except TooMany as refused:
                self.assertEqual(refused.many, 600)


if __name__ == "__main__":
    unittest.main()

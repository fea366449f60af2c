"""Points 2, 4, 48 and 49: states that answer alike, the least machine of them, and the words that part others."""

import copy
import inspect
import itertools
import unittest
from fractions import Fraction

from echobound import classes
from echobound.builds import direct
from echobound.classes import Least
from echobound.errors import NoState, NoWords, TooMany
from echobound.forms import Form
from echobound.machines import run
from echobound.nets import Net
from echobound.reach import Reach
from tests.helper import (MANNERS, Stranger, as_pair, asked, chance, check_interface, counter, echo_net, enter_of,
                          no_states, no_word_lists, other_kinds, plain_points, plain_turn, plain_value, refusal,
                          some_nets, some_words)

NO_MOST = [0, -1, 101, 102, 300, 600, 10 ** 30, -60, "60", "", *other_kinds()]


def parity(width):
    """Counts, and tells of the count only whether it is odd, by what is left of a half."""
    forms = [Form(width), Form(None, -1, "down")]
    rows = [("in",), ("old", 0), ("plus", 0, 1), ("keep", 0, 2), ("keep", 1, 3), ("less", 3, 4)]
    return Net(forms, 0, rows, [(0, 0, 3)], 5)


def last_only(many):
    """Counts ones up from 0 and stops at many, which is told; below it noughts are."""
    forms = [Form(8, 0, "half", "stop"), Form(7, 0, "half", "stop"), Form(None, 0, "half", "stop")]
    greatest = 63
    rows = [("in",), ("old", 0), ("plus", 0, 1), ("keep", 1, 2),
            # One more than the greatest word has no room; what it goes over is all that is told.
            ("keep", 1, 2), ("less", 2, 4)]
    return Net(forms, 0, rows, [(1, greatest - many, 3)], 5)


def plain_least(net, words):
    """The states, their turns, and for each pair of states how many words part them (None: none do)."""
    states = Reach(net, words, 600).states()
    turns = {state: [(plain_value(net, turn[0]), turn[1]) for turn in (plain_turn(net, state, word) for word in words)]
             for state in states}
    apart = {}
    many = 0
    changed = True
    while changed:
        many += 1
        changed = False
        found = {}
        for one, other in itertools.combinations(states, 2):
            if (one, other) in apart:
                continue
            for (value, after), (other_value, other_after) in zip(turns[one], turns[other]):
                if value != other_value or (after, other_after) in apart:
                    found[one, other] = found[other, one] = many
        if found:
            changed = True
            apart.update(found)
    return (states, turns, apart)


def small_nets(seed, many):
    nets = some_nets(seed, 3 * many, (0, 1, 1, 2), (2, 3, 4), (-1, 0, 1, 2), 8)
    return [net for net in nets if sum(net.forms()[hold[0]].width for hold in net.holds()) <= 6][:many]


def coarse_nets(seed, many):
    """Built nets of which only a coarse sight is told."""
    dice = chance(seed)
    told = []
    for _ in range(many):
        bottom = [dice.randint(-2, 2) for _ in range(dice.randint(1, 2))]
        keep = Form(3, 0, dice.choice(MANNERS), dice.choice(("wrap", "stop")))
        net = direct([dice.randint(-2, 2)], bottom, 1, Form(3), keep)
        sight = Form(2, dice.choice((-2, -1)), dice.choice(MANNERS), dice.choice(("wrap", "stop")))
        told.append(Net([*net.forms(), sight], 0, [*net.rows(), ("keep", 2, net.out())], net.holds(), len(net)))
    return told


class LeastTest(unittest.TestCase):
    def check_classes(self, told, states, apart):
        wanted = []
        for state in states:
            home = [one for one in wanted if (one[0], state) not in apart]
            self.assertLessEqual(len(home), 1)
            if home:
                home[0].append(state)
            else:
                wanted.append([state])
        self.assertEqual(asked(self, told.classes), wanted)
        self.assertEqual(len(told), len(wanted))
        for number, one in enumerate(wanted):
            for state in one:
                self.assertEqual(asked(self, told.class_of, state), number)
        return wanted

    def check_ways(self, net, words, told, states, apart):
        for one in states:
            for other in states:
                way = told.way(one, other)
                if (one, other) not in apart:
                    self.assertIsNone(way)
                    continue
                self.assertEqual(len(way), apart[one, other])
                self.assertTrue(set(way) <= set(words))
                self.assertNotEqual(run(net, way, one)[-1], run(net, way, other)[-1])
        self.assertEqual(asked(self, told.way, states[0], states[-1]), told.way(states[0], states[-1]))
        self.assertEqual(told.rounds(), max(apart.values(), default=0))

    def check(self, net, words, *most):
        states, turns, apart = plain_least(net, words)
        told = Least(net, words, *most)
        wanted = self.check_classes(told, states, apart)
        table = asked(self, told.table)
        self.assertEqual(table, [[(as_pair(value), told.class_of(after)) for value, after in turns[one[0]]]
                                 for one in wanted])
        for number, one in enumerate(wanted):
            for state in one:
                self.assertEqual([(as_pair(value), told.class_of(after)) for value, after in turns[state]],
                                 table[number])
        self.check_ways(net, words, told, states, apart)
        return told

    def test_by_hand(self):
        told = self.check(echo_net(), [0, 1, -1])
        self.assertEqual(told.classes(), [[(0,)], [(1,)], [(-1,), (-2,)], [(2,), (3,)]])
        self.assertEqual([told.class_of((word,)) for word in (0, 1, -1, -2, 2, 3)], [0, 1, 2, 2, 3, 3])
        self.assertEqual(told.table(), [[((0, 1), 0), ((1, 1), 1), ((-1, 1), 2)],
                                        [((1, 1), 1), ((2, 1), 3), ((0, 1), 0)],
                                        [((-1, 1), 2), ((0, 1), 0), ((-2, 1), 2)],
                                        [((2, 1), 3), ((3, 1), 3), ((1, 1), 1)]])
        self.assertEqual((told.way((-1,), (-2,)), told.way((2,), (2,)), told.rounds(), len(told)), (None, None, 1, 4))

    def test_one_class(self):
        net = counter(4)
        silent = Net(net.forms(), 0, [*net.rows(), ("less", 3, 3)], net.holds(), 4)
        told = self.check(silent, [1])
        self.assertEqual((len(told), told.rounds(), told.table()), (1, 0, [[((0, 1), 0)]]))
        self.assertEqual(told.classes(), [[(word % 16 - 16 * (word % 16 > 7),) for word in range(16)]])
        told = self.check(Net([Form(4, 1)], 0, [("in",)], [], 0), [1, -3], 1)
        self.assertEqual((told.classes(), told.table(), told.rounds()), ([[()]], [[((1, 2), 0), ((-3, 2), 0)]], 0))
        self.assertEqual((told.class_of(()), told.way((), ()), len(told)), (0, None, 1))

    def test_as_many_classes_as_states(self):
        told = self.check(counter(4), [1, -2])
        self.assertEqual((len(told), told.rounds()), (16, 1))
        self.assertEqual(len(told.classes()), 16)

    def test_between(self):
        for width in (2, 3, 5):
            told = self.check(parity(width), [1, 0])
            self.assertEqual((len(told), told.rounds()), (2, 1))
            self.assertEqual(told.class_of((0,)), 0)
            self.assertEqual(told.class_of((1,)), 1)

    def test_long_ways(self):
        for many in (1, 2, 10, 40):
            told = self.check(last_only(many), [1])
            self.assertEqual((len(told), told.rounds()), (many + 1, many))
            self.assertEqual(told.way((63 - many,), (64 - many,)), [1] * many)
            self.assertEqual(told.way((62,), (63,)), [1])

    def test_any_net(self):
        dice = chance(481)
        seen = {"one": 0, "all": 0, "between": 0}
        rounds = 0
        for net in [*small_nets(482, 40), *coarse_nets(485, 40)]:
            words = some_words(dice, net)
            told = self.check(net, words, 100)
            states = sum(map(len, told.classes()))
            kind = "one" if len(told) == 1 else "all" if len(told) == states else "between"
            seen[kind] += 1
            rounds = max(rounds, told.rounds())
        self.assertGreater(min(seen.values()), 4, seen)
        self.assertGreater(rounds, 2)

    def test_the_table_tells_every_run(self):
        dice = chance(483)
        for net in [*small_nets(484, 8), *coarse_nets(486, 8)]:
            words = some_words(dice, net)
            told = Least(net, words, 100)
            table, at, values = told.table(), told.class_of(net.start()), []
            row = [dice.choice(words) for _ in range(50)]
            for word in row:
                value, at = table[at][words.index(word)]
                values.append(Fraction(*value))
            step = Fraction(2) ** plain_points(net)[net.out()]
            self.assertEqual(values, [number / step for number in run(net, row)])

    def test_values_at_a_point(self):
        net = Net([Form(3, 2)], 0, [("in",), ("old", 0), ("keep", 0, 0)], [(0, 1, 2)], 1)
        told = self.check(net, [2, -3])
        self.assertEqual(told.table(), [[((1, 4), 1), ((1, 4), 2)], [((1, 2), 1), ((1, 2), 2)],
                                        [((-3, 4), 1), ((-3, 4), 2)]])


class MostTest(unittest.TestCase):
    def test_most(self):
        self.assertEqual(len(Least(last_only(59), [1])), 60)
        self.assertEqual(refusal(self, TooMany, Least, last_only(60), [1]).many, 60)
        self.assertEqual(len(Least(last_only(60), [1], 61)), 61)
        self.assertEqual(len(Least(last_only(99), [1], 100)), 100)
        self.assertEqual(refusal(self, TooMany, Least, last_only(100), [1], 100).many, 100)
        for words in ([1], [3, -3]):
            for most in (1, 2, 15):
                self.assertEqual(refusal(self, TooMany, Least, counter(4), words, most).many, most)
            for most in (16, 17, 60, 100):
                self.assertEqual(len(Least(most=most, words=words, net=counter(4))), 16)
        self.assertEqual(len(Least(counter(4), [0], 1)), 1)
        self.assertEqual(refusal(self, TooMany, Least, net=counter(), words=[1]).many, 60)

    def test_no_most(self):
        for thing in NO_MOST:
            for net in (counter(3), counter()):
                refusal(self, NoWords, Least, net, [1], thing)
                refusal(self, NoWords, Least, most=thing, words=[1], net=net)

    def test_no_words(self):
        for net in (counter(3), echo_net()):
            for thing in no_word_lists(enter_of(net)):
                refusal(self, NoWords, Least, net, thing)
                refusal(self, NoWords, Least, words=thing, net=net, most=1)
                refusal(self, NoWords, Least, net, thing, 0)


class RefusedTest(unittest.TestCase):
    def test_no_state_of_the_list(self):
        net = counter(4)
        told = Least(net, [4, -4])
        good = (0,)
        for thing in [*no_states(net), (1,), (7,), (-1,), (8,), (False,), (0, 0), [0], "0", (-8, 0), Stranger()]:
            refusal(self, NoState, told.class_of, thing)
            refusal(self, NoState, told.class_of, state=thing)
            for one, other in ((good, thing), (thing, good), (thing, thing)):
                refusal(self, NoState, told.way, one, other)
                refusal(self, NoState, told.way, other=other, one=one)
        self.assertEqual(told.class_of(state=(-8,)), 3)
        self.assertIsNone(told.way(other=(4,), one=(4,)))
        self.assertEqual(told.way(other=(4,), one=(0,)), told.way((0,), (4,)))

    def test_refusals_change_nothing(self):
        told = Least(echo_net(), [0, 1])
        before = (told.classes(), told.table(), told.rounds(), len(told))
        refusal(self, NoState, told.class_of, (99,))
        refusal(self, NoState, told.way, (0,), (99,))
        self.assertEqual((told.classes(), told.table(), told.rounds(), len(told)), before)

    def test_words_done_to_behind_the_call(self):
        words = [0, 1]
        told = Least(echo_net(), words)
        before = (told.classes(), told.table(), told.way((0,), (1,)))
        words.append(100)
        words[0] = 7
        self.assertEqual((told.classes(), told.table(), told.way((0,), (1,))), before)


class InterfaceTest(unittest.TestCase):
    def test_names_and_arguments(self):
        check_interface(self, classes, {"Least": "(net, words, most=60)"})
        for name, arguments in {"classes": "(self)", "class_of": "(self, state)", "rounds": "(self)",
                                "table": "(self)", "way": "(self, one, other)", "__len__": "(self)"}.items():
            self.assertEqual(str(inspect.signature(vars(Least)[name])), arguments)

    def test_the_net_stays(self):
        net = echo_net()
        before = copy.deepcopy(net)
        told = Least(net, [1, 2])
        told.classes(), told.table(), told.way((0,), (1,)), told.rounds()
        self.assertTrue(net == before)


if __name__ == "__main__":
    unittest.main()

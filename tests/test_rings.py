"""Points 2, 3, 4, 41 and 42: all states, the rings they come to, and what is told of them."""

import copy
import inspect
import itertools
import unittest

from echobound import rings
from echobound.builds import direct, freed
from echobound.errors import BadState, NoState, NoWords, TooMany, Unfit
from echobound.forms import Form
from echobound.machines import run, turned
from echobound.nets import Net
from echobound.rings import Rings
from tests.helper import (Stranger, asked, chance, check_interface, echo_net, enter_of, no_numbers, no_states, no_words,
                          other_kinds, plain_turn, refusal, some_nets, some_word)

NO_MOST = [0, -1, 601, 602, 10 ** 30, -300, "300", "", *other_kinds()]


def plain_states(net):
    ranges = [range(-2 ** (net.forms()[hold[0]].width - 1), 2 ** (net.forms()[hold[0]].width - 1))
              for hold in net.holds()]
    return list(itertools.product(*ranges))


def plain_rings(net, word):
    """All states, the turn from each, and all rings, by following each state as long as there are states."""
    states = plain_states(net)
    turns = {state: plain_turn(net, state, word) for state in states}
    found = set()
    for state in states:
        for _ in states:
            state = turns[state][1]
        ring = [state]
        while turns[ring[-1]][1] != state:
            ring.append(turns[ring[-1]][1])
        least = ring.index(min(ring))
        found.add(tuple(ring[least:] + ring[:least]))
    return (states, turns, sorted([list(ring) for ring in found]))


def small_nets(seed, many):
    """Nets with few states."""
    nets = some_nets(seed, 4 * many, (0, 1, 2, 3), (2, 3, 4, 5), (-1, 0, 1, 2), 9)
    return [net for net in nets if sum(net.forms()[hold[0]].width for hold in net.holds()) <= 7][:many]


def negated(width=8):
    """Tells what it told last with the other sign."""
    return Net([Form(width)], 0, [("in",), ("old", 0), ("less", 0, 1), ("keep", 0, 2)], [(0, 0, 3)], 3)


class RingsTest(unittest.TestCase):
    def check(self, net, word, *most):
        states, turns, wanted = plain_rings(net, word)
        told = Rings(net, word, *most)
        self.assertEqual(asked(self, told.states), states)
        self.assertEqual(asked(self, told.rings), wanted)
        self.assertEqual(len(told), len(states))
        spots = {state: (number, place) for number, ring in enumerate(wanted) for place, state in enumerate(ring)}
        for state in states:
            many, now = 0, state
            while now not in spots:
                many, now = many + 1, turns[now][1]
            lead = told.lead(state)
            self.assertEqual(lead, (many, *spots[now]))
            self.assertIs(type(lead), tuple)
            if lead[0]:
                self.assertEqual(told.lead(turns[state][1]), (lead[0] - 1, *lead[1:]))
        for number, ring in enumerate(wanted):
            self.assertEqual(asked(self, told.outs, number), [turns[state][0][net.out()] for state in ring])
            self.assertEqual(asked(self, told.overs, number),
                             [(place, row) for place, state in enumerate(ring) for row in turns[state][2]])
        for row in range(len(net)):
            numbers = [turns[state][0][row] for ring in wanted for state in ring]
            self.assertEqual(asked(self, told.echo, row), (min(numbers), max(numbers)))
        self.assertIs(told.still(), all(len(ring) == 1 for ring in wanted))
        self.assertIs(told.quiet(), wanted == [[(0,) * len(net.holds())]])
        return told

    def test_by_hand(self):
        told = self.check(echo_net(), 0)
        self.assertEqual(told.rings(), [[(-1,)], [(0,)], [(1,)], [(2,)]])
        self.assertEqual((told.still(), told.quiet(), told.echo(4), told.echo(2)), (True, False, (-1, 2), (-3, 6)))
        self.assertEqual([told.lead(state) for state in ((2,), (3,), (4,), (-128,))],
                         [(0, 3, 0), (1, 3, 0), (2, 3, 0), (15, 0, 0)])
        told = self.check(echo_net(), 50)
        self.assertEqual(told.rings(), [[(-111,), (-33,), (25,), (69,), (102,), (127,)]])
        self.assertEqual(told.outs(0), [-33, 25, 69, 102, 127, -111])
        self.assertEqual(told.overs(0), [(5, 4)])
        self.assertEqual((told.still(), told.quiet(), len(told)), (False, False, 256))

    def test_rings_of_one_and_of_two(self):
        told = self.check(negated(3), 0)
        self.assertEqual(told.rings(), [[(-4,)], [(-3,), (3,)], [(-2,), (2,)], [(-1,), (1,)], [(0,)]])
        self.assertEqual(told.overs(0), [(0, 3)])
        self.assertEqual([told.overs(ring) for ring in (1, 2, 3, 4)], [[], [], [], []])
        self.assertEqual((told.outs(1), told.still(), told.quiet()), ([3, -3], False, False))

    def test_one_ring_of_many(self):
        net = Net([Form(6)], 0, [("in",), ("old", 0), ("plus", 0, 1), ("keep", 0, 2)], [(0, 0, 3)], 3)
        told = self.check(net, 1)
        self.assertEqual(told.rings(), [[(word,) for word in range(-32, 32)]])
        self.assertEqual((told.overs(0), told.echo(3), told.echo(2)), ([(63, 3)], (-32, 31), (-31, 32)))
        self.assertEqual(len(self.check(net, 2).rings()), 2)
        self.assertEqual(len(self.check(net, 0).rings()), 64)
        self.assertIs(self.check(net, 0).still(), True)

    def test_quiet(self):
        for manner, quiet in (("in", True), ("down", False), ("up", False), ("half", False)):
            net = Net([Form(6, 0, manner)], 0, echo_net().rows(), [(0, 0, 4)], 4)
            self.assertIs(self.check(net, 0).quiet(), quiet, manner)
        net = Net([Form(3)], 0, [("in",), ("keep", 0, 0)], [(0, 2, 1)], 1)
        self.assertIs(self.check(net, 0).quiet(), True)
        # One ring of one state, which is not that of noughts.
        told = self.check(net, 1)
        self.assertEqual((told.rings(), told.still(), told.quiet()), ([[(1,)]], True, False))

    def test_no_holds(self):
        net = Net([Form(4), Form(3)], 0, [("in",), ("keep", 1, 0)], [], 1)
        for word, over in ((0, []), (5, [(0, 1)]), (-8, [(0, 1)])):
            told = self.check(net, word, 1)
            self.assertEqual((told.states(), told.rings(), len(told)), ([()], [[()]], 1))
            self.assertEqual((told.lead(()), told.still(), told.quiet()), ((0, 0, 0), True, True))
            self.assertEqual(told.overs(0), over)
        self.check(Net([Form()], 0, [("in",)], [], 0), 10 ** 30)

    def test_any_net(self):
        dice = chance(211)
        turns, several, long = 0, 0, 0
        for net in small_nets(212, 90):
            told = self.check(net, some_word(dice, enter_of(net)))
            turns += max(told.lead(state)[0] for state in told.states())
            several += len(told.rings()) > 1
            long += max(len(ring) for ring in told.rings()) > 2
        self.assertGreater(turns, 90)
        self.assertGreater(several, 10)
        self.assertGreater(long, 0)

    def test_four_holds(self):
        net = direct([1, 1, -1], [-3, 2], 1, Form(2), Form(2, 0, "up"))
        self.assertEqual(len(net.holds()), 4)
        for word in (-2, -1, 0, 1):
            told = self.check(net, word, 256)
            self.assertEqual(len(told), 256)

    def test_each_ring_just_once_and_each_state_to_one(self):
        dice = chance(213)
        for net in small_nets(214, 20):
            word = some_word(dice, enter_of(net))
            told = Rings(net, word)
            on_rings = [state for ring in told.rings() for state in ring]
            self.assertEqual(len(on_rings), len(set(on_rings)))
            for ring in told.rings():
                self.assertEqual(ring[0], min(ring))
                for state, after in zip(ring, ring[1:] + ring[:1]):
                    self.assertEqual(turned(net, state, word)[1], after)
            self.assertEqual(told.rings(), sorted(told.rings()))
            for state in told.states():
                turns, ring, place = told.lead(state)
                outs = told.outs(ring)
                tail = run(net, [word] * (turns + 3 * len(outs)), state)[turns:]
                self.assertEqual(tail, (outs[place:] + outs[:place]) * 3)

    def test_the_word_left_out(self):
        for net in small_nets(215, 10):
            one, other = Rings(net), Rings(net, 0, 300)
            self.assertEqual((one.states(), one.rings()), (other.states(), other.rings()))
            self.assertEqual(Rings(most=300, word=0, net=net).rings(), other.rings())
        self.assertEqual(Rings(word=50, net=echo_net()).outs(0), [-33, 25, 69, 102, 127, -111])

    def test_the_start_and_the_out_row_change_no_ring(self):
        net = echo_net()
        other = Net(net.forms(), 0, net.rows(), [(0, 99, 4)], 0)
        self.assertEqual(Rings(other, 5).rings(), Rings(net, 5).rings())
        self.assertEqual(Rings(other, 5).outs(0), [5])


class RefusedTest(unittest.TestCase):
    def test_no_word(self):
        for net in (echo_net(), freed(echo_net(), [4]), negated(10)):
            for thing in no_words(enter_of(net)):
                for most in (300, 1, 0, None):
                    self.assertEqual(refusal(self, Unfit, Rings, net, thing, most).at, 0)
                self.assertEqual(refusal(self, Unfit, Rings, word=thing, net=net).at, 0)

    def test_no_most(self):
        for net in (echo_net(), freed(echo_net(), [4]), negated(10)):
            for thing in NO_MOST:
                refusal(self, NoWords, Rings, net, 0, thing)
                refusal(self, NoWords, Rings, net=net, most=thing)

    def test_without_a_width(self):
        built = direct([1, 1], [1], 1, Form(2), Form(2))
        for net in (freed(echo_net(), [4]), *[freed(built, [hold[2]]) for hold in built.holds()]):
            for most in (1, 300, 600):
                self.assertEqual(refusal(self, TooMany, Rings, net, 0, most).many, most)
            self.assertEqual(refusal(self, TooMany, Rings, net).many, 300)

    def test_more_states_than_most(self):
        self.assertEqual(len(Rings(negated(8))), 256)
        self.assertEqual(refusal(self, TooMany, Rings, negated(9)).many, 300)
        self.assertEqual(len(Rings(negated(9), 0, 512)), 512)
        self.assertEqual(len(Rings(negated(9), 0, 600)), 512)
        self.assertEqual(refusal(self, TooMany, Rings, negated(9), 0, 511).many, 511)
        self.assertEqual(refusal(self, TooMany, Rings, negated(10), 0, 600).many, 600)
        self.assertEqual(refusal(self, TooMany, Rings, negated(64), 0, 600).many, 600)
        for most in (1, 2, 3):
            self.assertEqual(refusal(self, TooMany, Rings, negated(2), 1, most).many, most)
        self.assertEqual(len(Rings(negated(2), 1, 4)), 4)
        wide = Net([Form(64)], 0, [("in",), ("keep", 0, 0)], [(0, 0, 1)] * 6, 0)
        self.assertEqual(refusal(self, TooMany, Rings, wide, 0, 600).many, 600)
        two = Net([Form(4), Form(5)], 0, [("in",), ("keep", 0, 0), ("keep", 1, 0)], [(0, 0, 1), (1, 0, 2)], 0)
        self.assertEqual(refusal(self, TooMany, Rings, two).many, 300)
        self.assertEqual(len(Rings(two, 0, 512)), 512)

    def test_no_state(self):
        for net in (echo_net(), direct([1, 1], [1], 1, Form(2), Form(3)), Net([Form(8)], 0, [("in",)], [], 0)):
            told = Rings(net)
            for thing in no_states(net):
                refusal(self, BadState, told.lead, thing)
                refusal(self, BadState, told.lead, state=thing)
        self.assertEqual(Rings(echo_net()).lead(state=(3,)), (1, 3, 0))
        refusal(self, BadState, Rings(echo_net()).lead, (True,))

    def test_no_ring(self):
        told = Rings(echo_net())
        for thing in [*no_numbers(4), -4, (0,), [(0,)], Stranger()]:
            for call in (told.outs, told.overs):
                refusal(self, NoState, call, thing)
                refusal(self, NoState, call, ring=thing)
        self.assertEqual((told.outs(ring=3), told.overs(ring=3)), ([2], []))

    def test_no_row(self):
        told = Rings(echo_net())
        for thing in [*no_numbers(5), -5, (4,), Stranger()]:
            refusal(self, NoState, told.echo, thing)
            refusal(self, NoState, told.echo, row=thing)
        self.assertEqual(told.echo(row=0), (0, 0))

    def test_refusals_change_nothing(self):
        told = Rings(echo_net(), 7)
        before = (told.states(), told.rings(), told.outs(0), told.overs(0), told.echo(4))
        refusal(self, BadState, told.lead, (1000,))
        refusal(self, NoState, told.outs, 99)
        refusal(self, NoState, told.echo, 99)
        self.assertEqual((told.states(), told.rings(), told.outs(0), told.overs(0), told.echo(4)), before)


class InterfaceTest(unittest.TestCase):
    def test_names_and_arguments(self):
        check_interface(self, rings, {"Rings": "(net, word=0, most=300)"})
        for name, arguments in {"states": "(self)", "rings": "(self)", "lead": "(self, state)", "outs": "(self, ring)",
                                "overs": "(self, ring)", "still": "(self)", "quiet": "(self)", "echo": "(self, row)",
                                "__len__": "(self)"}.items():
            self.assertEqual(str(inspect.signature(vars(Rings)[name])), arguments)

    def test_the_net_stays(self):
        net = echo_net()
        before = copy.deepcopy(net)
        told = Rings(net, 3)
        told.lead((5,)), told.outs(0), told.overs(0), told.still(), told.quiet(), told.echo(4)
        self.assertTrue(net == before)


if __name__ == "__main__":
    unittest.main()

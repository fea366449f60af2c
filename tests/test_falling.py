"""Points 2, 3, 4 and 43 to 45: nets without ends, the states whose worth does not fall, and all rings there are."""

import copy
import functools
import inspect
import itertools
import unittest
from fractions import Fraction

from echobound import falling
from echobound.builds import chain, direct, freed, rungs, transposed
from echobound.errors import BadState, NoState, NotFree, NotStill, NoWords, TooMany, TooSlow, Unfit
from echobound.falling import AllRings
from echobound.forms import Form
from echobound.machines import run, turned
from echobound.nets import Net
from echobound.rings import Rings
from echobound.stillness import is_paper, stillness, worth
from echobound.twins import matrices_of
from tests.helper import (MANNERS, Stranger, as_matrix, as_number, as_pairs, as_rows, asked, chance, check_interface,
                          echo_net, enter_of, flipped, less, multiplied, no_numbers, no_states, no_words, other_kinds,
                          plain_points, plain_turn, refusal, some_nets, squares_by, twin_numbers, unit_rows)

NO_MOST = [0, -1, 601, 602, 10 ** 30, -300, "300", "", *other_kinds()]
NO_TURNS = [-1, 5001, 5002, 10 ** 30, -1000, "1000", "", *other_kinds()]


def decaying(top, point, manner="half", first=0):
    """Tells the word and top / 2 ** point of what it told last, without ends."""
    rows = [("in",), ("old", 0), ("times", top, point, 1), ("plus", 0, 2), ("keep", 0, 3)]
    return Net([Form(None, 0, manner)], 0, rows, [(0, first, 4)], 4)


def all_free(net):
    return freed(net, net.keeps())


def plain_grounds(net, word):
    """F, the slacks and the two numbers of which the radius is made, for a P."""
    many = len(net.holds())
    points = plain_points(net)
    columns = [twin_numbers(net, [Fraction(int(at == one)) for at in range(many)], Fraction(0)) for one in range(many)]
    matrix = [[column[hold[2]] for column in columns] for hold in net.holds()]
    by_word = twin_numbers(net, [Fraction(0)] * many, Fraction(word))
    slacks = [abs(by_word[hold[2]]) for hold in net.holds()]
    for at, row in enumerate(net.rows()):
        if row[0] == "keep" and points[row[2]] > points[at]:
            form = net.forms()[row[1]]
            slack = Fraction(1, 2) if form.manner in ("half", "even", "far") else Fraction(1)
            numbers = twin_numbers(net, [Fraction(0)] * many, Fraction(0), (at, Fraction(1)))
            slacks = [one + slack * abs(numbers[hold[2]]) for one, hold in zip(slacks, net.holds())]
    return (matrix, slacks)


def plain_radius(matrix, weights, slacks):
    many = len(slacks)
    through = multiplied(weights, matrix)
    ahead = sum(slacks[i] * abs(through[i][j]) for i in range(many) for j in range(many))
    alone = sum(slacks[i] * slacks[j] * abs(weights[i][j]) for i in range(many) for j in range(many))
    beyond = int(2 * ahead + alone) + 2
    if beyond > 3000:
        # The root lies between these two, and is found by halving.
        low, high = 0, beyond
        while high - low > 1:
            middle = (low + high) // 2
            low, high = (middle, high) if middle * middle <= 2 * ahead * middle + alone else (low, middle)
        return low
    return max(m for m in range(beyond + 1) if m * m <= 2 * ahead * m + alone)


def turns_with(net, word):
    """What tells the turn with the word from a state; each one is reckoned once."""
    return functools.cache(lambda state: plain_turn(net, state, word))


def ring_of(turn, state):
    """Behind how many turns a state comes to a ring, the ring, and the place in it to which it comes."""
    seen = {}
    while state not in seen:
        seen[state] = len(seen)
        state = turn(state)[1]
    ring = list(seen)[seen[state]:]
    least = ring.index(min(ring))
    ring = ring[least:] + ring[:least]
    return (seen[state], ring, ring.index(state))


def box_states(many, size):
    return list(itertools.product(range(-size, size + 1), repeat=many))


def far_states(dice, many, sizes=(20, 1000, 10 ** 25)):
    return [tuple(dice.randint(-size, size) for _ in range(many)) for size in sizes for _ in range(2)]


class AllRingsTest(unittest.TestCase):
    def check_lazy(self, net, turn, told, weights, radius):
        def plain_worth(state):
            return squares_by(weights, [Fraction(number) for number in state])

        near = box_states(len(net.holds()), min(radius + 1, 400))
        states = [*near, *far_states(chance(len(near)), len(net.holds()))]
        lazy = [state for state in states if plain_worth(turn(state)[1]) >= plain_worth(state)]
        self.assertEqual(asked(self, told.lazy), sorted(set(lazy)))
        self.assertEqual(len(told), len(told.lazy()))
        for state in told.lazy():
            self.assertLessEqual(max(map(abs, state), default=0), radius)

    def check_rings(self, net, turn, told, radius):
        states = [*box_states(len(net.holds()), radius), *far_states(chance(radius), len(net.holds()))]
        found = {tuple(ring_of(turn, state)[1]): True for state in states}
        wanted = sorted([list(ring) for ring in found])
        self.assertEqual(asked(self, told.rings), wanted)
        for state in states[::7] + states[-6:]:
            turns, ring, place = ring_of(turn, state)
            self.assertEqual(asked(self, told.lead, state), (turns, wanted.index(ring), place))
        return wanted

    def check_told(self, net, turn, told, wanted):
        turns = [[turn(state)[0] for state in ring] for ring in wanted]
        for number, ring in enumerate(turns):
            self.assertEqual(asked(self, told.outs, number), [numbers[net.out()] for numbers in ring])
        for row in range(len(net)):
            numbers = [numbers[row] for ring in turns for numbers in ring]
            self.assertEqual(asked(self, told.echo, row), (min(numbers), max(numbers)))
        self.assertIs(told.still(), all(len(ring) == 1 for ring in wanted))
        self.assertIs(told.quiet(), wanted == [[(0,) * len(net.holds())]])
        for ring in wanted:
            self.assertTrue(set(ring) & set(told.lazy()))

    def check(self, net, word=0, *most):
        matrix, slacks = plain_grounds(net, word)
        told = AllRings(net, word, *most)
        grounds = asked(self, told.grounds)
        self.assertEqual((type(grounds), type(grounds[0]), type(grounds[1])), (tuple, list, list))
        weights = as_rows(grounds[0])
        self.assertEqual(less(weights, multiplied(multiplied(flipped(matrix), weights), matrix)),
                         unit_rows(len(matrix)))
        self.assertTrue(is_paper(as_matrix(matrix), ("still", grounds[0])))
        self.assertEqual(grounds[1], as_pairs(slacks))
        self.assertEqual(grounds[2], plain_radius(matrix, weights, slacks))
        turn = turns_with(net, word)
        self.check_lazy(net, turn, told, weights, grounds[2])
        self.check_told(net, turn, told, self.check_rings(net, turn, told, grounds[2]))
        return told

    def test_by_hand(self):
        told = self.check(all_free(echo_net()))
        self.assertEqual(told.grounds(), ([[(16, 7)]], [(1, 2)], 2))
        self.assertEqual(told.lazy(), [(-1,), (0,), (1,), (2,)])
        self.assertEqual(told.rings(), [[(-1,)], [(0,)], [(1,)], [(2,)]])
        self.assertEqual((told.still(), told.quiet(), len(told), told.echo(4), told.echo(2)),
                         (True, False, 4, (-1, 2), (-3, 6)))
        self.assertEqual([told.lead(state) for state in ((2,), (3,), (4,), (-5,))],
                         [(0, 3, 0), (1, 3, 0), (2, 3, 0), (4, 0, 0)])
        self.assertEqual((told.outs(0), told.outs(3)), ([-1], [2]))

    def test_a_ring_of_two_of_both_signs(self):
        told = self.check(decaying(-3, 2, "far"))
        self.assertEqual(told.rings(), [[(-2,), (2,)], [(-1,), (1,)], [(0,)]])
        self.assertEqual((told.outs(0), told.outs(1), told.still(), told.quiet()), ([2, -2], [1, -1], False, False))
        self.assertEqual((told.lead((-2,)), told.lead((2,)), told.lead((0,))), ((0, 0, 0), (0, 0, 1), (0, 2, 0)))

    def test_no_holds(self):
        net = Net([Form(4), Form(None, -1, "down")], 0, [("in",), ("keep", 1, 0)], [], 1)
        for word in (0, 5, -8):
            told = self.check(net, word, 1)
            self.assertEqual(told.grounds(), ([], [], 0))
            self.assertEqual((told.lazy(), told.rings(), len(told)), ([()], [[()]], 1))
            self.assertEqual((told.lead(()), told.lead((), 0), told.still(), told.quiet()),
                             ((0, 0, 0), (0, 0, 0), True, True))
            self.assertEqual((told.outs(0), told.echo(0)), ([word // 2], (word, word)))
        self.check(Net([Form()], 0, [("in",)], [], 0), 10 ** 30)

    def test_one_hold(self):
        lengths = []
        for manner in MANNERS:
            for top, point in ((3, 2), (-3, 2), (1, 1), (-7, 3), (0, 0), (-1, 2)):
                for word in (0, 1, -2):
                    told = self.check(decaying(top, point, manner), word)
                    lengths.append(max(len(ring) for ring in told.rings()))
        self.assertGreater(max(lengths), 1)

    def test_the_word_widens_the_ground(self):
        net = decaying(1, 1)
        self.assertEqual([AllRings(net, word).grounds()[1] for word in (0, 1, -1, 5)],
                         [[(1, 2)], [(3, 2)], [(3, 2)], [(11, 2)]])
        self.assertEqual([AllRings(net, word).grounds()[2] for word in (0, 1, -1, 5)], [1, 3, 3, 11])
        self.assertEqual(AllRings(net, 5).rings(), [[(10,)], [(11,)]])
        self.assertEqual(AllRings(net, -5).rings(), [[(-10,)], [(-9,)]])

    def test_two_holds_and_more(self):
        for keep in (Form(None, 0, "in"), Form(None, 0, "half")):
            for net in (direct([1], [-1, 1], 1, Form(8), keep), direct([1, 1], [1], 1, Form(None, 1), Form()),
                        transposed([1, 2], [1, 1], 2, Form(6), keep), transposed([1], [0, -1], 1, Form(8), keep),
                        rungs([1, 1], 2, Form(4), keep), direct([1, 0, 1, 0], [], 1, Form(None, 0, "up"), keep),
                        chain(direct([1], [1], 1, Form(8), keep), direct([1], [1], 1, Form(), keep))):
                self.assertIn(len(net.holds()), (2, 3))
                for word in (0, 1):
                    self.check(net, word)

    def test_three_and_four_holds(self):
        keep = Form(None, 0, "half")
        self.check(direct([1], [0, 0, 1], 1, Form(2), keep))
        self.check(direct([1], [0, 0, 1], 2, Form(2), keep), 1)
        four = direct([1, 1], [1, 0, 1], 3, Form(), Form(None, 0, "even"))
        self.assertEqual(len(four.holds()), 4)
        self.check(four)

    def test_rings_of_two_holds_turn(self):
        # Rounds a slow turn about 0 back to where it was.
        told = self.check(direct([1], [-3, 3], 2, Form(8), Form(None, 0, "half")))
        self.assertGreater(max(len(ring) for ring in told.rings()), 2)
        numbers = [number for ring in told.rings() for state in ring for number in state]
        self.assertTrue(min(numbers) < 0 < max(numbers))

    def test_any_net(self):
        dice = chance(431)
        kept, slow, many = 0, 0, 0
        for net in some_nets(432, 150, (0, 1, 1, 2, 2, 3), (None,), (-1, 0, 1, 2), 9):
            word = dice.choice((0, 0, 1, -3))
            try:
                AllRings(net, word)
            except NotStill as refused:
                self.check_not_still(net, refused.paper)
                slow += 1
            except TooMany:
                many += 1
                self.check_too_many(net, word, 600)
            else:
                self.check(net, word)
                kept += 1
        self.assertGreater(kept, 30)
        self.assertGreater(slow, 5)
        self.assertGreater(many, 5)

    def check_not_still(self, net, paper):
        matrix = as_matrix(plain_grounds(net, 0)[0])
        self.assertNotEqual(paper[0], "still")
        self.assertTrue(is_paper(matrix, paper))
        self.assertEqual(paper, stillness(matrix))

    def check_too_many(self, net, word, most):
        matrix, slacks = plain_grounds(net, word)
        paper = stillness(as_matrix(matrix))
        self.assertEqual(paper[0], "still")
        radius = plain_radius(matrix, as_rows(paper[1]), slacks)
        self.assertGreater((2 * radius + 1) ** len(net.holds()), most)

    def test_a_net_with_ends_that_never_reaches_them(self):
        # Where the width has room for all lazy states and all that comes of them, both have the same rings.
        for manner in MANNERS:
            net = Net([Form(8, 0, manner)], 0, echo_net().rows(), [(0, 0, 4)], 4)
            for word in (0, 1, -2, 5):
                self.assertEqual(AllRings(all_free(net), word).rings(), Rings(net, word).rings())

    def test_the_worth_falls_by_the_told_matrix(self):
        dice = chance(433)
        net = direct([1], [-3, 3], 2, Form(8), Form(None, 0, "half"))
        told = AllRings(net, 1)
        weights = told.grounds()[0]
        lazy = told.lazy()
        for state in box_states(2, 12) + far_states(dice, 2):
            after = turned(net, state, 1)[1]
            fell = as_number(worth(weights, as_pairs(after))) < as_number(worth(weights, as_pairs(state)))
            self.assertEqual(fell, state not in lazy, state)

    def test_the_word_left_out(self):
        net = decaying(-3, 2, "out")
        one, other = AllRings(net), AllRings(net, 0, 600)
        named = AllRings(most=600, word=0, net=net)
        for call in ("grounds", "lazy", "rings"):
            self.assertEqual(getattr(one, call)(), getattr(other, call)())
            self.assertEqual(getattr(one, call)(), getattr(named, call)())
        self.assertEqual(AllRings(word=5, net=decaying(1, 1)).rings(), [[(10,)], [(11,)]])

    def test_the_start_and_the_out_row_change_no_ring(self):
        one = AllRings(decaying(3, 2, "half", 10 ** 30), 2)
        net = decaying(3, 2)
        other = AllRings(Net(net.forms(), 0, net.rows(), net.holds(), 0), 2)
        self.assertEqual((one.rings(), one.lazy(), one.grounds()), (other.rings(), other.lazy(), other.grounds()))
        self.assertEqual(other.outs(0), [2])

    def test_rows_that_keep_and_are_no_hold_s(self):
        forms = [Form(4), Form(None, 0, "down"), Form(None, 2, "up")]
        rows = [("in",), ("old", 0), ("times", 1, 3, 1), ("keep", 2, 2), ("plus", 0, 3), ("keep", 1, 4), ("keep", 2, 2)]
        net = Net(forms, 0, rows, [(1, 0, 5)], 6)
        told = self.check(net, 3)
        self.assertEqual(told.grounds()[1], [(1 * 4 + 1 + 3 * 4, 4)])

    def test_a_hold_that_is_exact(self):
        rows = [("in",), ("keep", 0, 0), ("old", 0), ("old", 1), ("keep", 0, 2)]
        net = Net([Form()], 0, rows, [(0, 9, 1), (0, 9, 4)], 3)
        told = self.check(net)
        self.assertEqual(told.grounds(), ([[(2, 1), (0, 1)], [(0, 1), (1, 1)]], [(0, 1), (0, 1)], 0))
        self.assertEqual((told.lazy(), told.rings(), told.quiet()), ([(0, 0)], [[(0, 0)]], True))
        self.assertEqual([told.lead(state) for state in ((0, 0), (0, 5), (10 ** 40, 0))],
                         [(0, 0, 0), (1, 0, 0), (2, 0, 0)])

    def test_quiet(self):
        for manner, quiet in (("in", True), ("out", False), ("down", False), ("up", False), ("half", False)):
            self.assertIs(self.check(decaying(3, 2, manner)).quiet(), quiet, manner)
        # One ring of one state, which is not that of noughts.
        told = self.check(decaying(0, 0), 7)
        self.assertEqual((told.rings(), told.still(), told.quiet()), ([[(7,)]], True, False))


class LeadTest(unittest.TestCase):
    def test_far_states(self):
        dice = chance(434)
        for net in (decaying(3, 2), decaying(-3, 2, "down"), direct([1], [-3, 3], 2, Form(8), Form())):
            told = AllRings(net, 1)
            for state in far_states(dice, len(net.holds()), (10 ** 39, 10 ** 40)):
                turns, ring, place = told.lead(state)
                outs = told.outs(ring)
                tail = run(net, [1] * (turns + 2 * len(outs)), state)[turns:]
                self.assertEqual(tail, (outs[place:] + outs[:place]) * 2)
                self.assertEqual(told.lead(turned(net, state, 1)[1]), (turns - 1, ring, place))

    def test_most(self):
        told = AllRings(decaying(3, 2))
        for state in ((3,), (-7,), (1000,), (10 ** 40,)):
            turns, ring, place = told.lead(state)
            for most in (turns, turns + 1, 1000, 5000):
                self.assertEqual(told.lead(state, most), (turns, ring, place))
            for most in (turns - 1, 0):
                self.assertEqual(refusal(self, TooSlow, told.lead, state, most).many, most)
                self.assertEqual(refusal(self, TooSlow, told.lead, most=most, state=state).many, most)
        self.assertEqual(told.lead((2,), 0), (0, 3, 0))
        self.assertEqual(told.lead(most=0, state=(2,)), (0, 3, 0))

    def test_left_out_it_is_a_thousand(self):
        told = AllRings(decaying(3, 2))
        turns = told.lead((10 ** 399,), 5000)[0]
        self.assertGreater(turns, 3000)
        self.assertEqual(refusal(self, TooSlow, told.lead, (10 ** 399,)).many, 1000)
        self.assertEqual(refusal(self, TooSlow, told.lead, (-10 ** 399,), 3000).many, 3000)
        # The greatest state from which a thousand turns are enough, found by halving: a lesser one needs no more.
        low, high = 10 ** 120, 10 ** 130
        while high - low > 1:
            middle = (low + high) // 2
            low, high = (middle, high) if told.lead((middle,), 5000)[0] <= 1000 else (low, middle)
        self.assertEqual(told.lead((low,))[0], 1000)
        self.assertEqual(refusal(self, TooSlow, told.lead, (high,)).many, 1000)
        self.assertEqual(told.lead((high,), 1001)[0], 1001)

    def test_refused_in_this_order(self):
        for net in (decaying(3, 2), direct([1], [-1, 1], 1, Form(8), Form()), Net([Form(8)], 0, [("in",)], [], 0)):
            told = AllRings(net)
            start = net.start()
            for thing in [*no_states(net), Stranger()]:
                for most in (1000, 0, -1, None):
                    refusal(self, BadState, told.lead, thing, most)
                refusal(self, BadState, told.lead, state=thing)
            far = tuple(10 ** 40 for _ in start)
            for thing in NO_TURNS:
                for state in (start, far):
                    refusal(self, NoWords, told.lead, state, thing)
                    refusal(self, NoWords, told.lead, most=thing, state=state)
        for state in ((True,), (0, 0), (), [0], ("0",), (None,), ((0, 1),), (Fraction(1),)):
            refusal(self, BadState, AllRings(decaying(3, 2)).lead, state)


class RefusedTest(unittest.TestCase):
    def test_no_word_comes_first(self):
        loud = Net([Form(8), Form(4)], 0, [("in",), ("old", 0), ("times", 2, 0, 1), ("keep", 1, 2)], [(1, 0, 3)], 3)
        for net in (all_free(echo_net()), echo_net(), loud, all_free(loud), all_free(chain(loud, loud))):
            for thing in no_words(enter_of(net)):
                for most in (600, 1, 0, None):
                    self.assertEqual(refusal(self, Unfit, AllRings, net, thing, most).at, 0)
                self.assertEqual(refusal(self, Unfit, AllRings, word=thing, net=net).at, 0)

    def test_then_no_most(self):
        loud = decaying(2, 0)
        for net in (all_free(echo_net()), echo_net(), loud, decaying(255, 8), Net([Form(8)], 0, [("in",)], [], 0)):
            for thing in NO_MOST:
                refusal(self, NoWords, AllRings, net, 0, thing)
                refusal(self, NoWords, AllRings, net=net, most=thing)

    def test_then_a_keep_row_with_a_width(self):
        self.assertEqual(refusal(self, NotFree, AllRings, echo_net()).row, 4)
        built = direct([1, 1], [2], 0, Form(2), Form(2))
        keeps = built.keeps()
        self.assertEqual(len(keeps), 2)
        for most in (1, 600):
            self.assertEqual(refusal(self, NotFree, AllRings, built, 1, most).row, keeps[0])
            self.assertEqual(refusal(self, NotFree, AllRings, freed(built, keeps[:1]), 1, most).row, keeps[1])
            self.assertEqual(refusal(self, NotFree, AllRings, freed(built, keeps[1:]), 1, most).row, keeps[0])
        # A row that keeps for no hold counts, too, and so where F is still and there are few states.
        net = Net([Form(), Form(64)], 0, [("in",), ("keep", 0, 0), ("keep", 1, 0)], [(0, 0, 1)], 0)
        self.assertEqual(refusal(self, NotFree, AllRings, net).row, 2)
        net = Net([Form(4)], 0, [("in",), ("keep", 0, 0)], [], 0)
        self.assertEqual(refusal(self, NotFree, AllRings, net, 0, 1).row, 1)

    def test_then_what_is_not_still(self):
        for top, point, word in ((2, 0, "loud"), (1, 0, "ring"), (-1, 0, "ring"), (-5, 2, "loud")):
            for most in (1, 600):
                paper = refusal(self, NotStill, AllRings, decaying(top, point), 0, most).paper
                self.assertEqual(paper[0], word)
                matrix = matrices_of(decaying(top, point))[0]
                self.assertTrue(is_paper(matrix, paper))
                self.assertEqual(paper, stillness(matrix))

    def test_then_too_many(self):
        # With the manner down the radius of a hold that keeps 1 - e of itself is that of 1 / e.
        fits, too_far = decaying(2 ** 20 - 3500, 20, "down"), decaying(2 ** 20 - 3490, 20, "down")
        self.assertEqual(AllRings(fits).grounds()[2], 299)
        self.assertEqual(AllRings(fits, 0, 599).grounds()[2], 299)
        self.assertEqual(refusal(self, TooMany, AllRings, fits, 0, 598).many, 598)
        self.assertEqual(refusal(self, TooMany, AllRings, too_far).many, 600)
        self.assertEqual(refusal(self, TooMany, AllRings, most=600, net=too_far).many, 600)
        self.assertEqual(refusal(self, TooMany, AllRings, decaying(2 ** 62 - 1, 62)).many, 600)
        self.assertEqual(refusal(self, TooMany, AllRings, decaying(1, 1), 10 ** 399).many, 600)

    def test_just_where_too_many_are_looked_at(self):
        for net in (decaying(3, 2), decaying(-7, 3, "up"), direct([1], [-1, 1], 1, Form(8), Form()),
                    rungs([1, 1], 2, Form(4), Form(None, 0, "in")), direct([1], [0, 0, 1], 1, Form(2), Form())):
            radius = AllRings(net).grounds()[2]
            self.assertGreater(radius, 0)
            looked_at = (2 * radius + 1) ** len(net.holds())
            for most in (looked_at, looked_at + 1):
                self.assertEqual(AllRings(net, 0, most).rings(), AllRings(net).rings())
            for most in (looked_at - 1, 1):
                self.assertEqual(refusal(self, TooMany, AllRings, net, 0, most).many, most)
        # With one hold that forgets all, only the state of noughts is looked at.
        self.assertEqual(AllRings(decaying(0, 0), 0, 1).rings(), [[(0,)]])

    def test_no_ring_and_no_row(self):
        told = AllRings(all_free(echo_net()))
        for thing in [*no_numbers(4), -4, (0,), [(0,)], Stranger()]:
            refusal(self, NoState, told.outs, thing)
            refusal(self, NoState, told.outs, ring=thing)
        for thing in [*no_numbers(5), -5, (4,), Stranger()]:
            refusal(self, NoState, told.echo, thing)
            refusal(self, NoState, told.echo, row=thing)
        self.assertEqual((told.outs(ring=3), told.echo(row=0)), ([2], (0, 0)))

    def test_refusals_change_nothing(self):
        told = AllRings(decaying(-3, 2, "out"), 1)
        before = (told.grounds(), told.lazy(), told.rings(), told.outs(0), told.echo(4))
        refusal(self, BadState, told.lead, (1, 2))
        refusal(self, TooSlow, told.lead, (1000,), 1)
        refusal(self, NoWords, told.lead, (1000,), None)
        refusal(self, NoState, told.outs, 99)
        refusal(self, NoState, told.echo, 99)
        self.assertEqual((told.grounds(), told.lazy(), told.rings(), told.outs(0), told.echo(4)), before)


class InterfaceTest(unittest.TestCase):
    def test_names_and_arguments(self):
        check_interface(self, falling, {"AllRings": "(net, word=0, most=600)"})
        for name, arguments in {"grounds": "(self)", "lazy": "(self)", "rings": "(self)", "outs": "(self, ring)",
                                "still": "(self)", "quiet": "(self)", "echo": "(self, row)",
                                "lead": "(self, state, most=1000)", "__len__": "(self)"}.items():
            self.assertEqual(str(inspect.signature(vars(AllRings)[name])), arguments)

    def test_the_net_stays(self):
        net = decaying(3, 2)
        before = copy.deepcopy(net)
        told = AllRings(net, 3)
        told.lead((5,)), told.outs(0), told.still(), told.quiet(), told.echo(4), told.grounds(), told.lazy()
        self.assertTrue(net == before)


if __name__ == "__main__":
    unittest.main()

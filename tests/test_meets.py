"""Points 2, 3, 4, 46 and 47: two nets that answer alike, or the shortest row of words that parts them."""

import copy
import itertools
import unittest
from fractions import Fraction

from echobound import meets
from echobound.builds import direct, freed, transposed
from echobound.errors import NoWords, TooMany
from echobound.forms import Form
from echobound.machines import run
from echobound.meets import is_meeting, meet
from echobound.nets import Net
from echobound.reach import Reach
from echobound.spelling import without_times
from tests.helper import (MANNERS, Stranger, asked, chance, check_interface, counter, echo_net, no_states,
                          no_word_lists, other_kinds, plain_points, plain_turn, plain_value, refusal, some_nets,
                          some_words)

NO_MOST = [0, -1, 601, 602, 10 ** 30, -300, "300", "", *other_kinds()]


def plain_meet(one, other, words):
    """What is told of two nets, by going through all pairs of one depth behind those of the one ahead."""
    pairs = {(one.start(), other.start()): []}
    level = list(pairs)
    while level:
        following = []
        for pair in level:
            for word in words:
                numbers, after, _ = plain_turn(one, pair[0], word)
                others, other_after, _ = plain_turn(other, pair[1], word)
                if plain_value(one, numbers) != plain_value(other, others):
                    return ("parted", pairs[pair] + [word], [(*each, len(way)) for each, way in pairs.items()
                                                             if len(way) <= len(pairs[pair])])
                following.append(((after, other_after), pairs[pair] + [word]))
        level = []
        for pair, way in following:
            if pair not in pairs:
                pairs[pair] = way
                level.append(pair)
    return ("alike", list(pairs))


def out_values(net, words):
    step = Fraction(2) ** plain_points(net)[net.out()]
    return [number / step for number in run(net, words)]


def small_nets(seed, many):
    return some_nets(seed, many, (0, 1, 2), (2, 3), (-1, 0, 1, 2), 7)


def pairs_of_nets(seed, many):
    """Pairs of nets that hear the same words, many of them alike."""
    dice = chance(seed)
    told = []
    for net in small_nets(seed, many):
        told.append((net, net))
        told.append((net, without_times(net)[0]))
        rows = net.rows()
        at = dice.randrange(len(rows))
        if rows[at][0] == "times":
            rows[at] = ("times", rows[at][1] + dice.choice((0, 8, 1)), *rows[at][2:])
        told.append((net, Net(net.forms(), net.enters(), rows, net.holds(), net.out())))
        told.append((net, Net(net.forms(), net.enters(), net.rows(), net.holds(), dice.randrange(len(rows)))))
    return told


def built_pairs(seed, many):
    """Pairs of nets built of the same few numbers, which round or end in another manner, or add in another order."""
    dice = chance(seed)
    told = []
    for _ in range(many):
        top = [dice.randint(-2, 2) for _ in range(dice.randint(1, 2))]
        bottom = [dice.randint(-1, 1) for _ in range(dice.randint(1, 2))]
        forms = [Form(dice.choice((3, 4)), 0, dice.choice(MANNERS), dice.choice(("wrap", "stop"))) for _ in range(2)]
        builds = dice.choices((direct, transposed), k=2)
        told.append(tuple(build(top, bottom, 1, Form(3), form) for build, form in zip(builds, forms)))
    return told


class MeetTest(unittest.TestCase):
    def check(self, one, other, words, most=600):
        wanted = plain_meet(one, other, words)
        told = asked(self, meet, one, other, words, most)
        self.assertEqual(told, wanted)
        self.assertEqual([type(part) for part in told], [type(part) for part in wanted])
        if told[0] == "alike":
            self.assertIs(asked(self, is_meeting, one, other, words, told[1]), True)
        else:
            way = told[1]
            values, others = out_values(one, way), out_values(other, way)
            self.assertEqual(values[:-1], others[:-1])
            self.assertNotEqual(values[-1], others[-1])
            self.assertIs(is_meeting(one, other, words, [pair[:2] for pair in told[2]]), False)
        many = len(told[-1])
        if most == 600 and many > 1:
            self.assertEqual(meet(one, other, words, many), told)
            self.assertEqual(refusal(self, TooMany, meet, one, other, words, many - 1).many, many - 1)
        return told

    def test_by_hand(self):
        net, free = echo_net(), freed(echo_net(), [4])
        self.assertEqual(self.check(net, free, [0, 1, -1]),
                         ("alike", [((word,), (word,)) for word in (0, 1, -1, 2, -2, 3)]))
        self.assertEqual(self.check(net, free, [50]),
                         ("parted", [50] * 4, [((word,), (word,), at) for at, word in enumerate((0, 50, 88, 116))]))
        self.assertEqual(self.check(free, net, [100, 0]),
                         ("parted", [100, 100], [((0,), (0,), 0), ((100,), (100,), 1)]))

    def test_a_net_and_itself(self):
        self.assertEqual(self.check(counter(2), counter(2), [1]),
                         ("alike", [((word,), (word,)) for word in (0, 1, -2, -1)]))
        for net in small_nets(461, 10):
            dice = chance(462)
            words = some_words(dice, net)
            told = self.check(net, net, words)
            self.assertEqual(told, ("alike", [(state, state) for state in Reach(net, words).states()]))

    def test_parted_at_the_first_word(self):
        one, other = counter(4), counter(4, first=1)
        self.assertEqual(self.check(one, other, [3, 5]), ("parted", [3], [((0,), (1,), 0)]))
        self.assertEqual(meet(one, other, [3, 5], 1), ("parted", [3], [((0,), (1,), 0)]))
        # Of the words the first that parts is told, not the first one.
        stop = counter(4, "stop", 6)
        self.assertEqual(self.check(counter(4, "wrap", 6), stop, [1, 2, 3]), ("parted", [2], [((6,), (6,), 0)]))

    def test_parted_later(self):
        one = counter(4)
        for first in range(1, 8):
            other = counter(4, "stop")
            self.assertEqual(self.check(one, other, [first])[1], [first] * (7 // first + 1))

    def test_pairs_of_the_last_depth_are_told_all(self):
        # The first pair of a depth that parts is in the middle of it; those behind it are told, too.
        one, other = counter(5), counter(5, "stop")
        told = self.check(one, other, [1, 9, -3])
        self.assertEqual(told[1], [9, 9])
        self.assertEqual(told[2], [((0,), (0,), 0), ((1,), (1,), 1), ((9,), (9,), 1), ((-3,), (-3,), 1)])

    def test_out_values_at_unlike_points(self):
        one = Net([Form(4)], 0, [("in",), ("times", 4, 2, 0)], [], 1)
        other = Net([Form(4)], 0, [("in",), ("move", 0, 0)], [], 1)
        self.assertEqual((one.points(), other.points()), ([0, 2], [0, 0]))
        self.assertEqual(self.check(one, other, [3, -2, 0]), ("alike", [((), ())]))
        double = Net([Form(4)], 0, [("in",), ("move", 1, 0)], [], 1)
        self.assertEqual(self.check(other, double, [0, 5, 1]), ("parted", [5], [((), (), 0)]))
        # The same numbers at another point are other values, but of nought.
        self.assertEqual(self.check(counter(4), counter(4, point=1), [0]), ("alike", [((0,), (0,))]))
        self.assertEqual(self.check(counter(4), counter(4, point=1), [0, 1])[1], [1])
        half = Net([Form(4, 1)], 0, [("in",), ("times", 2, 0, 0)], [], 1)
        self.assertEqual(self.check(other, half, [1, -1, 7]), ("alike", [((), ())]))

    def test_nets_of_other_holds(self):
        words = [0, 1, -2, 3]
        one = direct([2, 1], [1], 1, Form(4), Form(6, 3))
        other = transposed([2, 1], [1], 1, Form(4), Form(6, 3))
        told = self.check(direct([2, 1], [], 1, Form(4), Form(6, 3)), transposed([2, 1], [], 1, Form(4), Form(6, 3)),
                          words)
        self.assertEqual(told[0], "alike")
        self.check(one, other, words)
        self.check(Net([Form(4)], 0, [("in",)], [], 0), counter(4), [0, 2])

    def test_without_times_and_freed(self):
        told = [self.check(echo_net(), without_times(echo_net())[0], [0, 1, -1, 5])[0]]
        told.append(self.check(echo_net(), freed(echo_net(), [4]), [20])[0])
        self.assertEqual(told, ["alike", "alike"])

    def test_any_nets(self):
        dice = chance(463)
        told = {"alike": 0, "parted": 0}
        longest = 0
        for one, other in [*pairs_of_nets(464, 60), *built_pairs(469, 40)]:
            answer = self.check(one, other, some_words(dice, one))
            told[answer[0]] += 1
            if answer[0] == "parted":
                longest = max(longest, len(answer[1]))
        self.assertGreater(told["alike"], 50)
        self.assertGreater(told["parted"], 30)
        self.assertGreater(longest, 3)

    def test_no_shorter_row_parts_them(self):
        dice = chance(465)
        seen = 0
        for one, other in built_pairs(466, 60):
            words = some_words(dice, one)[:3]
            told = meet(one, other, words, 600)
            if told[0] == "parted" and 2 <= len(told[1]) <= 5:
                seen += 1
                for row in itertools.product(words, repeat=len(told[1]) - 1):
                    self.assertEqual(out_values(one, list(row)), out_values(other, list(row)))
        self.assertGreater(seen, 3)

    def test_alike_for_long_rows(self):
        dice = chance(467)
        for one, other in pairs_of_nets(468, 15):
            words = some_words(dice, one)
            if meet(one, other, words, 600)[0] == "alike":
                row = [dice.choice(words) for _ in range(60)]
                self.assertEqual(out_values(one, row), out_values(other, row))

    def test_most(self):
        one, other = counter(9), counter(9)
        self.assertEqual(refusal(self, TooMany, meet, one, other, [1]).many, 300)
        self.assertEqual(len(meet(one, other, [1], 512)[1]), 512)
        self.assertEqual(len(meet(one, other, [1], 600)[1]), 512)
        self.assertEqual(refusal(self, TooMany, meet, one, other, [1], 511).many, 511)
        self.assertEqual(refusal(self, TooMany, meet, most=1, words=[1], other=other, one=one).many, 1)
        self.assertEqual(meet(counter(2), counter(2), [0], 1), ("alike", [((0,), (0,))]))
        self.assertEqual(meet(other=counter(2), one=counter(2), most=300, words=[1, 0]),
                         meet(counter(2), counter(2), [1, 0]))
        for most in (1, 300, 600):
            self.assertEqual(refusal(self, TooMany, meet, counter(), counter(), [1, 2], most).many, most)

    def test_exactly_three_hundred(self):
        def ring(many):
            forms = [Form(), Form(16, 0, "half", "stop")]
            rows = [("in",), ("old", 0), ("plus", 0, 1), ("keep", 1, 2)]
            return Net(forms, 0, rows, [(1, 2 ** 15 - many, 3)], 3)

        self.assertEqual(len(meet(ring(300), ring(300), [1])[1]), 300)
        self.assertEqual(refusal(self, TooMany, meet, ring(301), ring(301), [1]).many, 300)
        self.assertEqual(len(meet(ring(600), ring(600), [1], 600)[1]), 600)

    def test_pairs_deeper_than_the_one_that_parts_do_not_count(self):
        one, other = counter(5), counter(5, "stop", point=0)
        told = meet(one, other, [9, 1, 2, 3], 600)
        self.assertEqual((told[0], told[1], len(told[2])), ("parted", [9, 9], 5))
        self.assertEqual(meet(one, other, [9, 1, 2, 3], 5), told)
        self.assertEqual(refusal(self, TooMany, meet, one, other, [9, 1, 2, 3], 4).many, 4)
        # Without ends there would be ever more pairs, but nothing behind the first word is told.
        self.assertEqual(meet(counter(), counter(first=1), [1, 2, 3], 1), ("parted", [1], [((0,), (1,), 0)]))


class RefusedTest(unittest.TestCase):
    def test_no_words_of_either(self):
        narrow, wide = counter(3), counter(8)
        for one, other in ((narrow, narrow), (narrow, wide), (wide, narrow)):
            for thing in no_word_lists(Form(3)):
                refusal(self, NoWords, meet, one, other, thing)
                refusal(self, NoWords, meet, words=thing, other=other, one=one, most=0)
                refusal(self, NoWords, is_meeting, one, other, thing, [((0,), (0,))])
                refusal(self, NoWords, is_meeting, pairs=None, words=thing, other=other, one=one)
        for words in ([4], [0, 3, -5], [127]):
            self.assertEqual(len(meet(wide, wide, words, 600)), 2)
            refusal(self, NoWords, meet, wide, narrow, words)
            refusal(self, NoWords, meet, narrow, wide, words)

    def test_no_most(self):
        for thing in NO_MOST:
            for net in (counter(3), counter()):
                refusal(self, NoWords, meet, net, net, [1], thing)
                refusal(self, NoWords, meet, most=thing, one=net, words=[1], other=net)


class IsMeetingTest(unittest.TestCase):
    def test_in_any_order_and_some_twice(self):
        dice = chance(471)
        for one, other in pairs_of_nets(472, 15):
            words = some_words(dice, one)
            told = meet(one, other, words, 600)
            if told[0] == "alike":
                pairs = told[1]
                shuffled = dice.sample(pairs, len(pairs))
                for given in (pairs, pairs[::-1], shuffled, pairs + pairs, [*shuffled, pairs[-1], pairs[0]]):
                    self.assertIs(asked(self, is_meeting, one, other, words, given), True)

    def test_one_left_out_or_exchanged(self):
        dice = chance(473)
        for one, other in [(counter(3), counter(3)), *pairs_of_nets(474, 10)]:
            words = some_words(dice, one)
            told = meet(one, other, words, 600)
            if told[0] == "alike":
                pairs = told[1]
                for at in range(len(pairs)):
                    self.assertIs(asked(self, is_meeting, one, other, words, pairs[:at] + pairs[at + 1:]), False)
        pairs = meet(counter(3), counter(3), [1])[1]
        for at, pair in enumerate(pairs):
            wrong = [*pairs[:at], (pair[0], pairs[at - 1][1]), *pairs[at + 1:]]
            self.assertIs(is_meeting(counter(3), counter(3), [1], wrong), False)

    def test_pairs_that_part_are_none(self):
        self.assertIs(is_meeting(counter(2), counter(2), [1], meet(counter(2), counter(2), [1])[1]), True)
        more = [((a,), (b,)) for a in range(-2, 2) for b in range(-2, 2)]
        self.assertIs(is_meeting(counter(2), counter(2), [1], more), False)
        # Closed under the words, and the start is among them, but the values part.
        one, other = counter(2), counter(2, "stop")
        self.assertIs(is_meeting(one, other, [1], more), False)
        self.assertIs(is_meeting(one, other, [0], [((0,), (0,))]), True)
        self.assertIs(is_meeting(one, other, [0], [((0,), (0,)), ((1,), (1,))]), True)
        self.assertIs(is_meeting(one, other, [0], [((0,), (0,)), ((1,), (0,))]), False)
        self.assertIs(is_meeting(one, other, [0], [((1,), (1,))]), False)
        self.assertIs(is_meeting(pairs=[((0,), (0,))], words=[0], other=other, one=one), True)

    def test_more_pairs_than_are_met(self):
        one = counter(3)
        pairs = [((word,), (word,)) for word in range(-4, 4)]
        for words in ([2], [-4], [0], [1, 2, 3]):
            self.assertIs(is_meeting(one, one, words, pairs), True)

    def test_what_is_no_list_of_pairs(self):
        net = counter(3)
        good = ((0,), (0,))
        for thing in [*other_kinds(), "", 0, (good,), {good: True}, {good}, [(0,)], [[(0,), (0,)]], [good, None],
                      [good, 0], [good, Stranger()], [Stranger()], [good, (Stranger(), (0,))], [good, ()],
                      [good, ((0,),)], [good, ((0,), (0,), 0)], [((0,), (0,), 0)], [good, [(0,), (0,)]],
                      [good, ((False,), (0,))], [good, ((0,), (False,))], [((False,), (False,))],
                      meet(net, net, [0]), Reach(net, [0])]:
            self.assertIs(is_meeting(net, net, [0], thing), False, thing)
        for thing in no_states(net):
            self.assertIs(is_meeting(net, net, [0], [good, (thing, (0,))]), False)
            self.assertIs(is_meeting(net, net, [0], [good, ((0,), thing)]), False)
        within = []
        within.append(within)
        self.assertIs(is_meeting(net, net, [0], within), False)
        self.assertIs(is_meeting(net, net, [0], []), False)

    def test_no_holds(self):
        net = Net([Form(4)], 0, [("in",)], [], 0)
        self.assertIs(is_meeting(net, net, [1], [((), ())]), True)
        self.assertIs(is_meeting(net, net, [1], [()]), False)
        self.assertIs(is_meeting(net, net, [1], []), False)


class InterfaceTest(unittest.TestCase):
    def test_names_and_arguments(self):
        check_interface(self, meets, {"meet": "(one, other, words, most=300)",
                                      "is_meeting": "(one, other, words, pairs)"})

    def test_the_nets_stay(self):
        one, other = echo_net(), freed(echo_net(), [4])
        before = copy.deepcopy((one, other))
        meet(one, other, [1, 50]), is_meeting(one, other, [1], [((0,), (0,))])
        self.assertTrue((one, other) == before)


if __name__ == "__main__":
    unittest.main()

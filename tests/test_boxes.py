"""Points 2, 3, 4, 39 and 40: boxes that no run leaves, and the keep rows that may go over in them."""

import itertools
import unittest
from fractions import Fraction

from echobound import boxes
from echobound.boxes import box, is_box, may_over
from echobound.builds import direct, freed
from echobound.errors import NoState, NoWords, TooMany
from echobound.forms import Form
from echobound.nets import Net
from tests.helper import (Stranger, asked, chance, check_interface, echo_net, enter_of, no_words, other_kinds,
                          plain_kept, plain_points, plain_run, refusal, refused_at, some_nets, some_word)

HOLDS = (0, 1, 2, 3, 6)
NO_MANY = [0, -1, 41, 42, 10 ** 30, -20, "20", "", *other_kinds()]


def words_of(form):
    return (-2 ** (form.width - 1), 2 ** (form.width - 1) - 1)


def plain_stretches(net, heard, held):
    """The stretches of all rows and the keep rows of which an end goes over, by values."""
    points, forms, told, over = plain_points(net), net.forms(), [], []
    for at, row in enumerate(net.rows()):
        scale = Fraction(2) ** points[at]
        if row[0] == "in":
            told.append(heard)
        elif row[0] == "old":
            told.append(held[row[1]])
        elif row[0] == "times":
            low, high = told[row[3]]
            told.append((min(row[1] * low, row[1] * high), max(row[1] * low, row[1] * high)))
        elif row[0] == "move":
            told.append(told[row[2]])
        elif row[0] == "keep":
            form = forms[row[1]]
            ends = [plain_kept(form, end / Fraction(2) ** points[row[2]]) for end in told[row[2]]]
            if ends[0][1] or ends[1][1]:
                over.append(at)
            if at in over and form.ends == "wrap":
                told.append(words_of(form))
            else:
                told.append((ends[0][0], ends[1][0]))
        else:
            one, other = ([end / Fraction(2) ** points[k] for end in told[k]] for k in row[1:])
            if row[0] == "plus":
                ends = (one[0] + other[0], one[1] + other[1])
            else:
                ends = (one[0] - other[1], one[1] - other[0])
            told.append(tuple(int(end * scale) for end in ends))
    return (told, over)


def plain_box(net, low, high, many=20):
    """What a box tells, or None where TooMany is due."""
    held = [(hold[1], hold[1]) for hold in net.holds()]
    rounds = 0
    while True:
        rounds += 1
        rows = plain_stretches(net, (low, high), held)[0]
        wider = []
        for hold, own in zip(net.holds(), held):
            form, its = net.forms()[hold[0]], rows[hold[2]]
            if own[0] <= its[0] and its[1] <= own[1]:
                wider.append(own)
            elif rounds < many:
                wider.append((min(own[0], its[0]), max(own[1], its[1])))
            elif form.width is None:
                return None
            else:
                wider.append(words_of(form))
        if wider == held:
            return ("box", held, rows, rounds)
        held = wider


def some_ends(dice, net):
    ends = sorted(some_word(dice, enter_of(net)) for _ in range(2))
    return (ends[0], ends[1])


class StretchTest(unittest.TestCase):
    """Each kind of row's stretch."""

    def rows_of(self, row, heard, form=Form(8)):
        net = Net([Form(8, 2), form], 0, [("in",), ("in",), ("move", -1, 1), row], [], 3)
        told = box(net, *heard)
        self.assertEqual(told, plain_box(net, *heard))
        self.assertEqual(told[1:2] + told[3:], ([], 1))
        return told[2][3]

    def test_each_kind(self):
        for row, wanted in [(("in",), (-3, 5)), (("times", 4, 7, 0), (-12, 20)), (("times", -4, 7, 0), (-20, 12)),
                            (("times", 0, 0, 0), (0, 0)), (("times", -1, 0, 0), (-5, 3)), (("plus", 0, 1), (-6, 10)),
                            (("plus", 0, 2), (-9, 15)), (("less", 0, 1), (-8, 8)), (("less", 0, 2), (-11, 13)),
                            (("less", 2, 0), (-13, 11)), (("less", 0, 0), (-8, 8)), (("move", 9, 0), (-3, 5)),
                            (("move", -9, 2), (-3, 5))]:
            self.assertEqual(self.rows_of(row, (-3, 5)), wanted, row)
        self.assertEqual(self.rows_of(("times", -7, 1, 0), (4, 4)), (-28, -28))
        self.assertEqual(self.rows_of(("less", 0, 1), (4, 4)), (0, 0))

    def test_old(self):
        rows = [("in",), ("old", 0), ("old", 1), ("keep", 0, 0), ("keep", 0, 1)]
        net = Net([Form(8)], 0, rows, [(0, 7, 3), (0, 3, 4)], 2)
        self.assertEqual(box(net, -2, 5), ("box", [(-2, 7), (-2, 7)], [(-2, 5), (-2, 7), (-2, 7), (-2, 5), (-2, 7)], 3))

    def test_keep_with_neither_end_over(self):
        for ends in ("wrap", "stop"):
            self.assertEqual(self.rows_of(("keep", 1, 0), (-30, 30), Form(8, 0, "down", ends)), (-8, 7))
            self.assertEqual(self.rows_of(("keep", 1, 0), (-30, 30), Form(8, 0, "up", ends)), (-7, 8))
            self.assertEqual(self.rows_of(("keep", 1, 0), (-32, 31), Form(4, 0, "down", ends)), (-8, 7))
            self.assertEqual(self.rows_of(("keep", 1, 0), (-5, 6), Form(8, 4, "in", ends)), (-20, 24))

    def test_keep_with_one_end_over(self):
        for heard in ((-33, 0), (0, 32), (-33, 31), (-32, 32)):
            self.assertEqual(self.rows_of(("keep", 1, 0), heard, Form(4, 0, "down")), (-8, 7), heard)
        stop = Form(4, 0, "down", "stop")
        for heard, wanted in [((-33, 0), (-8, 0)), ((0, 32), (0, 7)), ((-33, 31), (-8, 7)), ((-32, 32), (-8, 7)),
                              ((20, 100), (5, 7)), ((-100, -20), (-8, -5))]:
            self.assertEqual(self.rows_of(("keep", 1, 0), heard, stop), wanted, heard)

    def test_keep_with_both_ends_over(self):
        # Both ends go round alike, and still all words are told.
        for heard in ((-100, 100), (33, 34), (-64, 64), (64, 64), (64, 68)):
            self.assertEqual(self.rows_of(("keep", 1, 0), heard, Form(4, 0, "down")), (-8, 7), heard)
        stop = Form(4, 0, "down", "stop")
        for heard, wanted in [((-100, 100), (-8, 7)), ((33, 34), (7, 7)), ((-100, -50), (-8, -8)), ((64, 64), (7, 7))]:
            self.assertEqual(self.rows_of(("keep", 1, 0), heard, stop), wanted, heard)

    def test_keep_without_a_width(self):
        for ends in ("wrap", "stop"):
            self.assertEqual(self.rows_of(("keep", 1, 0), (-128, 127), Form(None, 5, "half", ends)), (-1024, 1016))
            self.assertEqual(self.rows_of(("keep", 1, 0), (-128, 127), Form(None, -1, "half", ends)), (-16, 16))


class BoxTest(unittest.TestCase):
    def check(self, net, low, high, *many):
        wanted = plain_box(net, low, high, *many)
        if wanted is None:
            error = refusal(self, TooMany, box, net, low, high, *many)
            self.assertEqual(error.many, many[0] if many else 20)
            return None
        told = asked(self, box, net, low, high, *many)
        self.assertEqual(told, wanted)
        self.assertEqual([type(part) for part in told], [str, list, list, int])
        self.assertEqual({type(part) for part in told[1] + told[2]}, {tuple})
        self.assertIs(is_box(net, low, high, told[1]), True)
        return told

    def test_by_hand(self):
        told = ("box", [(-2, 3)], [(-1, 1), (-2, 3), (-6, 9), (-10, 13), (-2, 3)], 4)
        self.assertEqual(self.check(echo_net(), -1, 1), told)
        self.assertEqual(box(high=1, low=-1, net=echo_net(), many=20), told)
        self.assertEqual(box(echo_net(), -1, 1, 1)[1:2] + box(echo_net(), -1, 1, 1)[3:], ([(-128, 127)], 2))

    def test_any_net(self):
        dice = chance(201)
        refused = 0
        for net in some_nets(202, 150, HOLDS):
            low, high = some_ends(dice, net)
            refused += self.check(net, low, high) is None
            refused += self.check(net, low, high, dice.randint(1, 40)) is None
            self.check(net, low, low)
        self.assertGreater(refused, 5)

    def test_every_round_on_which_all_words_come(self):
        for net in (echo_net(), direct([3, 1], [-2, 1], 2, Form(4), Form(9, 1, "down", "stop"))):
            for many in range(1, 41):
                told = self.check(net, -8, 7, many)
                self.assertLessEqual(told[3], many + 1 + len(net.holds()))

    def test_one_round(self):
        net = Net([Form(8)], 0, [("in",), ("keep", 0, 0)], [(0, 5, 1)], 1)
        self.assertEqual(self.check(net, 5, 5, 1), ("box", [(5, 5)], [(5, 5), (5, 5)], 1))
        self.assertEqual(self.check(net, 5, 6), ("box", [(5, 6)], [(5, 6), (5, 6)], 2))
        self.assertEqual(self.check(net, 5, 6, 1), ("box", [(-128, 127)], [(5, 6), (5, 6)], 2))
        self.assertEqual(self.check(net, 5, 6, 2), ("box", [(5, 6)], [(5, 6), (5, 6)], 2))

    def test_no_holds(self):
        net = Net([Form(8), Form(4)], 0, [("in",), ("keep", 1, 0)], [], 1)
        self.assertEqual(self.check(net, -8, 8, 1), ("box", [], [(-8, 8), (-8, 7)], 1))
        self.assertEqual(self.check(net, -8, 7), ("box", [], [(-8, 7), (-8, 7)], 1))

    def test_all_words_come_one_hold_behind_the_other(self):
        """Each hold gets what the one ahead had: from round 1 on each changes in its own round."""
        rows = [("in",)] + [("old", at) for at in range(5)] + [("keep", 0, at) for at in range(6)]
        net = Net([Form(4)], 0, rows, [(0, 0, 6 + at) for at in range(6)], 11)
        self.assertEqual(self.check(net, 0, 1, 1)[1], [(-8, 7)] * 6)
        self.assertEqual(self.check(net, 0, 1, 1)[3], 7)
        self.assertEqual(self.check(net, 0, 1, 7)[1], [(0, 1)] * 6)
        self.assertEqual(self.check(net, 0, 1, 4)[1], [(0, 1)] * 3 + [(-8, 7)] * 3)

    def test_holds_without_end(self):
        free = freed(echo_net(), [4])
        for many in range(1, 41):
            self.check(free, -1, 1, many)
            self.check(free, -100, 100, many)
        self.assertEqual(refusal(self, TooMany, box, free, -1, 1, 3).many, 3)
        self.assertEqual(box(free, -1, 1, 4)[1], [(-2, 3)])
        self.assertEqual(refusal(self, TooMany, box, free, -100, 100, 5).many, 5)
        counter = Net([Form()], 0, [("in",), ("old", 0), ("plus", 0, 1), ("keep", 0, 2)], [(0, 5, 3)], 3)
        self.assertEqual(refusal(self, TooMany, box, counter, 0, 1).many, 20)
        for many in (1, 2, 39, 40):
            self.assertEqual(refusal(self, TooMany, box, counter, 0, 1, many).many, many)
            self.assertEqual(refusal(self, TooMany, box, many=many, high=-1, low=-2, net=counter).many, many)
        self.assertEqual(box(counter, 0, 0, 1)[1], [(5, 5)])

    def test_one_without_end_changes_later(self):
        """The hold with a width gets all words in round 1, and only then the one without changes."""
        rows = [("in",), ("old", 0), ("keep", 0, 0), ("keep", 1, 1)]
        net = Net([Form(4), Form()], 0, rows, [(0, 0, 2), (1, 0, 3)], 3)
        self.assertEqual(refusal(self, TooMany, box, net, 0, 1, 1).many, 1)
        self.assertEqual(refusal(self, TooMany, box, net, 0, 1, 2).many, 2)
        self.assertEqual(box(net, 0, 1, 3)[1], [(0, 1), (0, 1)])

    def test_wide_numbers(self):
        net = Net([Form(64, 3, "far", "stop")], 0, [("in",), ("old", 0), ("times", 2 ** 63 - 1, 0, 1), ("plus", 0, 2),
                                                    ("keep", 0, 3)], [(0, -2 ** 63, 4)], 4)
        self.check(net, -2 ** 63, 2 ** 63 - 1)
        self.check(net, 2 ** 63 - 1, 2 ** 63 - 1, 40)

    def test_runs_stay_in_it(self):
        dice = chance(203)
        turns = 0
        for net in some_nets(204, 60, HOLDS, (2, 4, 8, 16)):
            low, high = some_ends(dice, net)
            told = box(net, low, high)
            over = may_over(net, low, high, told[1])
            for numbers, went in plain_run(net, [dice.randint(low, high) for _ in range(40)]):
                turns += 1
                for number, stretch in zip(numbers, told[2]):
                    self.assertTrue(stretch[0] <= number <= stretch[1])
                for hold, stretch in zip(net.holds(), told[1]):
                    self.assertTrue(stretch[0] <= numbers[hold[2]] <= stretch[1])
                self.assertTrue(set(went) <= set(over))
        self.assertEqual(turns, 2400)


class RefusedTest(unittest.TestCase):
    CALLS = [(box, ()), (is_box, ([(-128, 127)],)), (is_box, (None,)), (may_over, ([(-128, 127)],)),
             (may_over, (None,))]

    def test_no_ends(self):
        net = echo_net()
        for call, more in self.CALLS:
            refused_at(self, NoWords, call, [net, -1, 1, *more], 1, [*no_words(Form(8)), 2, 127])
            refused_at(self, NoWords, call, [net, -1, 1, *more], 2, [*no_words(Form(8)), -2, -128])
            for low, high in ((1, 0), (127, -128), (0, -1), (-128, 128), (-129, 0), (None, None), ("0", "1")):
                refusal(self, NoWords, call, net, low, high, *more)

    def test_ends_of_a_form_without_a_width(self):
        net = Net([Form()], 0, [("in",)], [], 0)
        for call, more in ((box, ()), (is_box, ([],)), (may_over, ([],))):
            for low, high in ((1, 0), (True, 2), (0, True), ("0", 1), (0, None), (10 ** 399, 10 ** 399 - 1)):
                refusal(self, NoWords, call, net, low, high, *more)
            call(net, -10 ** 399, 10 ** 399, *more)

    def test_no_many(self):
        for net in (echo_net(), freed(echo_net(), [4])):
            refused_at(self, NoWords, box, [net, -1, 1, 20], 3, NO_MANY)
            refused_at(self, NoWords, box, [net, 1, -1, 20], 3, NO_MANY)

    def test_what_is_no_box_is_refused_behind_the_words(self):
        net = echo_net()
        for thing in no_boxes():
            refusal(self, NoState, may_over, net, -1, 1, thing)
            refusal(self, NoState, may_over, net=net, low=-1, high=1, holds=thing)
            refusal(self, NoWords, may_over, net, 1, -1, thing)
            refusal(self, NoWords, may_over, net, -1, None, thing)


def no_boxes():
    """Things that are no box of the document's example for words from -1 to 1."""
    return [*other_kinds(), "", 0, ((-2, 3),), (-2, 3), [-2, 3], [[-2, 3]], [(-2, 3), (-2, 3)], [(-2, 3), None],
            [(-2,)], [(-2, 3, 4)], [()], [(3, -2)], [(-1, 3)], [(-2, 2)], [(0, 0)], [(-1, 2)], [(-129, 3)], [(-2, 128)],
            [(1, 3)], [(-3, -1)], [(-2, True)], [(False, 3)], [("-2", "3")], [(None, None)], [((-2,), (3,))],
            [(-2, (3, 1))], [Stranger()], [(Stranger(), Stranger())], [None], [0], {0: (-2, 3)}, {(-2, 3)}, Stranger()]


class IsBoxTest(unittest.TestCase):
    def test_by_hand(self):
        net = echo_net()
        for thing in no_boxes():
            self.assertIs(is_box(net, -1, 1, thing), False, thing)
        for thing in ([(-2, 3)], [(-3, 3)], [(-2, 4)], [(-128, 127)], [(-100, 50)]):
            self.assertIs(asked(self, is_box, net, -1, 1, thing), True, thing)
        self.assertIs(is_box(holds=[(-2, 3)], high=1, low=-1, net=net), True)

    def test_what_was_told_and_wider_ones(self):
        dice = chance(205)
        wider = 0
        for net in some_nets(206, 60, HOLDS, (2, 4, 8, 16)):
            low, high = some_ends(dice, net)
            holds = box(net, low, high)[1]
            self.assertIs(asked(self, is_box, net, low, high, holds), True)
            for word in range(low, high + 1):
                self.assertIs(is_box(net, low, word, holds), True)
            full = [words_of(net.forms()[hold[0]]) for hold in net.holds()]
            self.assertIs(is_box(net, low, high, full), True)
            for at, stretch in enumerate(holds):
                for moved in ((stretch[0] - 1, stretch[1]), (stretch[0], stretch[1] + 1), (stretch[0] + 1, stretch[1]),
                              (stretch[0], stretch[1] - 1)):
                    thing = [*holds[:at], moved, *holds[at + 1:]]
                    told = asked(self, is_box, net, low, high, thing)
                    self.assertIs(told, self.wanted(net, low, high, thing))
                    wider += told
        self.assertGreater(wider, 10)

    def wanted(self, net, low, high, stretches):
        for hold, (one, other) in zip(net.holds(), stretches):
            least, greatest = words_of(net.forms()[hold[0]])
            if not least <= one <= hold[1] <= other <= greatest:
                return False
        rows = plain_stretches(net, (low, high), stretches)[0]
        return all(one <= rows[hold[2]][0] and rows[hold[2]][1] <= other
                   for hold, (one, other) in zip(net.holds(), stretches))

    def test_every_list_of_small_stretches(self):
        rows = [("in",), ("old", 0), ("plus", 0, 1), ("times", -1, 1, 2), ("keep", 0, 3)]
        for ends, first in itertools.product(("wrap", "stop"), (-2, 0, 1)):
            net = Net([Form(3, 0, "in", ends)], 0, rows, [(0, first, 4)], 4)
            for low, high in itertools.combinations_with_replacement(range(-4, 4), 2):
                for stretch in itertools.combinations_with_replacement(range(-4, 4), 2):
                    self.assertIs(is_box(net, low, high, [stretch]), self.wanted(net, low, high, [stretch]))

    def test_too_many_and_too_few(self):
        net = direct([1, 1], [1], 2, Form(4), Form(4))
        holds = box(net, -8, 7)[1]
        self.assertIs(is_box(net, -8, 7, holds), True)
        for thing in (holds[:1], holds * 2, holds + holds[:1], [], tuple(holds), holds[::-1] + [None]):
            self.assertIs(is_box(net, -8, 7, thing), False)

    def test_no_holds(self):
        net = Net([Form(8)], 0, [("in",)], [], 0)
        self.assertIs(is_box(net, 0, 5, []), True)
        for thing in ((), None, [()], [(0, 0)], "", {}, 0):
            self.assertIs(is_box(net, 0, 5, thing), False)

    def test_without_a_width(self):
        free = freed(echo_net(), [4])
        self.assertIs(is_box(free, -1, 1, [(-2, 3)]), True)
        self.assertIs(is_box(free, -1, 1, [(-10 ** 399, 10 ** 399)]), True)
        self.assertIs(is_box(free, -1, 1, [(-1, 10 ** 399)]), False)


class MayOverTest(unittest.TestCase):
    def test_by_hand(self):
        rows = [("in",), ("old", 0), ("keep", 0, 0), ("keep", 1, 0), ("keep", 2, 0), ("keep", 3, 0), ("plus", 0, 1),
                ("keep", 2, 6), ("keep", 0, 6)]
        net = Net([Form(8), Form(3), Form(4, 0, "half", "stop"), Form()], 0, rows, [(0, 0, 2)], 2)
        for low, high, wanted in [(0, 3, []), (-4, 3, []), (0, 4, [3, 7]), (-4, 0, []), (-5, 0, [3, 7]),
                                  (-8, 7, [3, 7]), (-9, 0, [3, 4, 7]), (0, 8, [3, 4, 7]), (-128, 127, [3, 4, 7, 8])]:
            holds = box(net, low, high)[1]
            self.assertEqual(asked(self, may_over, net, low, high, holds), wanted, (low, high))
            self.assertEqual(may_over(holds=holds, high=high, low=low, net=net), wanted)
        self.assertEqual(may_over(net, 0, 1, [(-128, 127)]), [7, 8])

    def test_any_net(self):
        dice = chance(207)
        told = 0
        for net in some_nets(208, 80, HOLDS, (2, 4, 8, 16)):
            low, high = some_ends(dice, net)
            full = [words_of(net.forms()[hold[0]]) for hold in net.holds()]
            for holds in (box(net, low, high)[1], full):
                wanted = plain_stretches(net, (low, high), holds)[1]
                self.assertEqual(asked(self, may_over, net, low, high, holds), wanted)
                self.assertEqual(sorted(set(wanted)), wanted)
                told += len(wanted)
        self.assertGreater(told, 50)

    def test_holds_stay(self):
        holds = [(-2, 3)]
        asked(self, may_over, echo_net(), -1, 1, holds)
        self.assertEqual(holds, [(-2, 3)])


class InterfaceTest(unittest.TestCase):
    def test_names_and_arguments(self):
        check_interface(self, boxes, {"box": "(net, low, high, many=20)", "is_box": "(net, low, high, holds)",
                                      "may_over": "(net, low, high, holds)"})


if __name__ == "__main__":
    unittest.main()

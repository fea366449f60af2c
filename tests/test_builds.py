"""Points 2, 4 and 34: nets that are built, chained, set beside one another, and freed."""

import itertools
import unittest
from fractions import Fraction

from echobound import builds
from echobound.builds import beside, chain, direct, freed, rungs, transposed
from echobound.errors import BadNet, NoChoice, NoSeries
from echobound.forms import Form
from echobound.fractions import fraction
from echobound.ladder import raised
from echobound.machines import Machine, run
from echobound.nets import Net
from echobound.series import parted, response
from echobound.twins import transfer
from tests.helper import (MANNERS, asked, chance, check_interface, echo_net, no_numbers, other_kinds, plain_kept,
                          plain_run, refusal, refused_at, some_form, some_net, some_word)

BIG = 10 ** 18 - 1
ENTER, KEEP = Form(8, 3), Form(10, 5, "even", "stop")
TOPS = [[3], [0], [1, 2], [-5, 0, 7], [1, -2, 3, -4], [BIG, -BIG, 0, BIG], [0, 0, 1]]
BOTTOMS = [[], [3], [-1, 1], [0, 0, 2], [5, -6, 7], [-BIG, BIG, -BIG]]
KS = [[], [1], [-3, 2], [1, 2, -3], [0, 0, 0, 1], [4, -4, 3, -3, 2], [1, -2, 3, -4, 5, -6], [BIG] * 6]
PAIRS = [(ENTER, KEEP), (Form(4), Form(4)), (Form(6, -2, "up", "stop"), Form(None, 4, "down")), (Form(), Form()),
         (Form(64, 64), Form(64, -64, "far")), (Form(3, -64), Form(5, 64, "in", "stop"))]


def some_words(dice, form, many):
    return [some_word(dice, form, 300) for _ in range(many)]


def value_of(form, word):
    return word / Fraction(2) ** form.point


class Sums:
    """The sums of the document, reckoned with values, one turn behind the other."""

    def __init__(self, enter, keep, point):
        self.enter, self.keep, self.step = enter, keep, Fraction(2) ** point

    def kept(self, value):
        word, went = plain_kept(self.keep, value)
        return (word, value_of(self.keep, word))

    def direct(self, top, bottom, words):
        xs, ys = [Fraction(0)] * len(top), [Fraction(0)] * (len(bottom) + 1)
        kept_xs, kept_ys, told = [0] * len(top), [0] * (len(bottom) + 1), []
        for word in words:
            xs, kept_xs = [value_of(self.enter, word)] + xs[:-1], [word] + kept_xs[:-1]
            total = sum(by * x for by, x in zip(top, xs)) - sum(by * y for by, y in zip(bottom, ys))
            out, value = self.kept(total / self.step)
            ys, kept_ys = [value] + ys[:-1], [out] + kept_ys[:-1]
            told.append((out, tuple(kept_xs[:len(top) - 1] + kept_ys[:len(bottom)])))
        return told

    def transposed(self, top, bottom, words):
        many = max(len(top) - 1, len(bottom))
        top, bottom = top + [0] * 4, bottom + [0] * 4
        held, told = [Fraction(0)] * (many + 1), []
        for word in words:
            x = value_of(self.enter, word)
            out, y = self.kept(top[0] * x / self.step + held[0])
            nexts = [self.kept((top[at] * x - bottom[at - 1] * y) / self.step + held[at]) for at in range(1, many + 1)]
            held = [value for _, value in nexts] + [Fraction(0)]
            told.append((out, tuple(one for one, _ in nexts)))
        return told

    def rungs(self, ks, words):
        many = len(ks)
        ks = [k / self.step for k in ks]
        held, told = [Fraction(0)] * many, []
        for word in words:
            f = {many: value_of(self.enter, word)}
            for m in range(many, 0, -1):
                out, f[m - 1] = self.kept(f[m] - ks[m - 1] * held[m - 1])
            if not ks:
                out, f[0] = self.kept(f[0])
            nexts = [(out, f[0])] + [self.kept(ks[m - 1] * f[m - 1] + held[m - 1]) for m in range(1, many)]
            held = [value for _, value in nexts][:many]
            told.append((out, tuple(one for one, _ in nexts[:many])))
        return told


class Built(unittest.TestCase):
    def check(self, net, enter, keep, hold_forms, wanted, words):
        """A net has the told forms and holds, and tells the out numbers and states wanted."""
        self.assertIs(type(net), Net)
        self.assertEqual((net.forms(), net.enters()), ([enter, keep], 0))
        self.assertEqual([(hold[0], hold[1]) for hold in net.holds()], [(form, 0) for form in hold_forms])
        self.assertEqual(net.rows()[net.out()][:2], ("keep", 1))
        machine = Machine(net)
        self.assertEqual([(machine.turn(word), machine.state()) for word in words], wanted)

    def keeps_of(self, net):
        return sorted({net.out(), *[hold[2] for hold in net.holds()]})

    def refused(self, build, given, at, things):
        refused_at(self, NoSeries, build, given, at, things)

    def check_refused(self, build, given, lists):
        """Each thing that a build takes, refused where it is none; lists have their places, least and most lengths."""
        for at, least, most in lists:
            things = [*other_kinds(), "1", 1, (1,) * most, [1] * (most + 1), [1] * 40, [10 ** 18], [-10 ** 18],
                      [1] * (most - 1) + [10 ** 18], [1] * (most - 1) + [True], [False] * most, ["1"], [None],
                      [(1, 2)], [[1]], [1] * (most - 1) + [None]]
            if least:
                things.append([])
            self.refused(build, given, at, [thing for thing in things if repr(thing) not in ("[1]", "[1, 1]", "[]")
                                            or (repr(thing) == "[]" and least)])
        point = len(given) - 3
        self.refused(build, given, point, no_numbers(65))
        for at in (point + 1, point + 2):
            self.refused(build, given, at, [*other_kinds(), 8, "8.0 half wrap", (8, 0, "half", "wrap"), [Form(8)],
                                            Form])


class DirectTest(Built):
    def test_the_sums(self):
        dice = chance(151)
        for top, bottom in itertools.product(TOPS, BOTTOMS):
            for enter, keep in PAIRS:
                point = dice.choice((0, 1, 3, 8, 64))
                words = some_words(dice, enter, 7)
                net = direct(list(top), list(bottom), point, enter, keep)
                wanted = Sums(enter, keep, point).direct(top, bottom, words)
                self.check(net, enter, keep, [0] * (len(top) - 1) + [1] * len(bottom), wanted, words)
                self.assertEqual(net.keeps(), self.keeps_of(net))

    def test_kept_once(self):
        """A sum that would come out otherwise, were its parts kept on their own."""
        net = direct([1, 1], [], 1, Form(8), Form(8, 0, "down"))
        self.assertEqual(run(net, [1, 1, 3, 1]), [0, 1, 2, 2])

    def test_response(self):
        for top, bottom in itertools.product(TOPS, BOTTOMS):
            got = transfer(direct(top, bottom, 3, ENTER, KEEP))
            wanted = ([fraction(number, 8) for number in top], [(1, 1)] + [fraction(number, 8) for number in bottom])
            self.assertIsNone(parted(*got, *wanted))

    def test_asked(self):
        for build in (direct, transposed):
            for top, bottom in itertools.product(TOPS, BOTTOMS):
                one = asked(self, build, top, bottom, 3, ENTER, KEEP)
                other = build(keep=KEEP, enter=ENTER, point=3, bottom=bottom, top=top)
                self.assertTrue(one == other)

    def test_lists_done_to_behind_the_call(self):
        for build in (direct, transposed):
            top, bottom = [1, 2], [3]
            net = build(top, bottom, 3, ENTER, KEEP)
            top.clear()
            bottom.append(7)
            self.assertTrue(net == build([1, 2], [3], 3, ENTER, KEEP))

    def test_refused(self):
        for build in (direct, transposed):
            self.check_refused(build, [[1, 2], [3], 3, ENTER, KEEP], [(0, 1, 4), (1, 0, 3)])


class TransposedTest(Built):
    def test_the_sums(self):
        dice = chance(152)
        for top, bottom in itertools.product(TOPS, BOTTOMS):
            for enter, keep in PAIRS:
                point = dice.choice((0, 1, 3, 8, 64))
                words = some_words(dice, enter, 7)
                net = transposed(list(top), list(bottom), point, enter, keep)
                wanted = Sums(enter, keep, point).transposed(top, bottom, words)
                self.check(net, enter, keep, [1] * max(len(top) - 1, len(bottom)), wanted, words)
                self.assertEqual(net.keeps(), self.keeps_of(net))

    def test_each_sum_kept(self):
        net = transposed([1, 1], [], 1, Form(8), Form(8, 0, "down"))
        self.assertEqual(run(net, [1, 1, 3, 1]), [0, 0, 1, 1])

    def test_response(self):
        for top, bottom in itertools.product(TOPS, BOTTOMS):
            got = transfer(transposed(top, bottom, 3, ENTER, KEEP))
            wanted = ([fraction(number, 8) for number in top], [(1, 1)] + [fraction(number, 8) for number in bottom])
            self.assertIsNone(parted(*got, *wanted))


class RungsTest(Built):
    def test_the_sums(self):
        dice = chance(153)
        for ks, (enter, keep) in itertools.product(KS, PAIRS):
            for point in (0, 2, 5, 64):
                words = some_words(dice, enter, 9)
                net = asked(self, rungs, list(ks), point, enter, keep)
                wanted = Sums(enter, keep, point).rungs(ks, words)
                self.check(net, enter, keep, [1] * len(ks), wanted, words)
                # One keep row for each f(m) below n, of which f(0) is out, and one for each g(m) from 1 on.
                self.assertEqual(len(net.keeps()), max(1, 2 * len(ks) - 1))
                self.assertTrue(rungs(keep=keep, enter=enter, point=point, ks=ks) == net)

    def test_each_manner(self):
        dice = chance(154)
        for manner, ends in itertools.product(MANNERS, ("wrap", "stop")):
            enter, keep = Form(8), Form(6, 1, manner, ends)
            words = some_words(dice, enter, 30)
            for ks in KS:
                self.check(rungs(ks, 2, enter, keep), enter, keep, [1] * len(ks), Sums(enter, keep, 2).rungs(ks, words),
                           words)

    def test_response(self):
        for ks in KS:
            for point in (0, 3):
                bottom = raised([(1, 1)], [fraction(k, 2 ** point) for k in ks])
                got = transfer(rungs(ks, point, ENTER, KEEP))
                self.assertIsNone(parted(*got, [(1, 1)], bottom))
                self.assertEqual(response(*got, 8), response([(1, 1)], bottom, 8))

    def test_refused(self):
        self.check_refused(rungs, [[1, 2], 3, ENTER, KEEP], [(0, 0, 6)])


def moved(row, forms, rows, holds):
    """A row whose numbers are more by these."""
    if row[0] == "in":
        return row
    if row[0] == "old":
        return ("old", row[1] + holds)
    if row[0] == "times":
        return (*row[:3], row[3] + rows)
    if row[0] == "move":
        return (*row[:2], row[2] + rows)
    return (row[0], row[1] + (forms if row[0] == "keep" else rows), row[2] + rows)


def small_nets(seed, many, forms=None):
    dice = chance(seed)
    return [some_net(dice, forms or [some_form(dice) for _ in range(dice.randint(1, 4))], dice.choice((0, 1, 3)),
                     dice.randint(1, 10)) for _ in range(many)]


class JoinedTest(unittest.TestCase):
    def check_parts(self, net, one, other, between):
        self.assertEqual(net.forms(), one.forms() + other.forms())
        self.assertEqual(net.enters(), one.enters())
        forms, holds, first = len(one.forms()), len(one.holds()), len(one) + between
        self.assertEqual(net.rows()[:len(one)], one.rows())
        self.assertEqual(net.holds(), one.holds() + [(form + forms, word, row + first)
                                                     for form, word, row in other.holds()])
        return [moved(row, forms, first, holds) for row in other.rows()]

    def test_chain(self):
        dice = chance(155)
        nets = small_nets(156, 30)
        for one, other in zip(nets, nets[::-1]):
            net = asked(self, chain, one, other)
            rows = self.check_parts(net, one, other, 1)
            kept = ("keep", len(one.forms()) + other.enters(), one.out())
            wanted = [("move", 0, len(one)) if row == ("in",) else row for row in rows]
            self.assertEqual(net.rows()[len(one):], [kept] + wanted)
            self.assertEqual(net.out(), len(one) + 1 + other.out())
            words = some_words(dice, one.forms()[one.enters()], 8)
            hears = other.forms()[other.enters()]
            between = [plain_kept(hears, value_at(one, numbers))[0] for numbers, went in plain_run(one, words)]
            self.assertEqual(run(net, words), run(other, between))
            self.assertTrue(chain(other=other, one=one) == net)

    def test_beside(self):
        dice = chance(157)
        forms = [Form(8, 2), Form(6, 3, "down", "stop")]
        nets = small_nets(158, 20, forms)
        for one, other in itertools.product(nets[:6], nets[6:]):
            if one.enters() != other.enters():
                continue
            net = asked(self, beside, one, other)
            rows = self.check_parts(net, one, other, 0)
            self.assertEqual(net.rows()[len(one):], rows + [("plus", one.out(), len(one) + other.out())])
            self.assertEqual(net.out(), len(one) + len(other))
            words = some_words(dice, forms[one.enters()], 8)
            sums = [value_at(one, numbers) + value_at(other, others)
                    for (numbers, _), (others, _) in zip(plain_run(one, words), plain_run(other, words))]
            point = net.points()[net.out()]
            self.assertEqual([number / Fraction(2) ** point for number in run(net, words)], sums)
            self.assertTrue(beside(other=other, one=one) == net)

    def test_by_hand(self):
        one = Net([Form(8)], 0, [("in",), ("old", 0), ("keep", 0, 0)], [(0, 3, 2)], 1)
        other = Net([Form(4, 1), Form(5)], 0, [("in",), ("times", 3, 1, 0), ("old", 0), ("keep", 1, 1)], [(1, 2, 3)], 3)
        net = chain(one, other)
        self.assertEqual(net.rows(), [("in",), ("old", 0), ("keep", 0, 0), ("keep", 1, 1), ("move", 0, 3),
                                      ("times", 3, 1, 4), ("old", 1), ("keep", 2, 5)])
        self.assertEqual((net.holds(), net.out()), ([(0, 3, 2), (2, 2, 7)], 7))
        net = beside(one, one)
        self.assertEqual(net.rows(), [("in",), ("old", 0), ("keep", 0, 0), ("in",), ("old", 1), ("keep", 1, 3),
                                      ("plus", 1, 4)])
        self.assertEqual((net.holds(), net.out()), ([(0, 3, 2), (1, 3, 5)], 6))

    def test_a_net_and_itself(self):
        net = echo_net()
        self.assertEqual(run(chain(net, net), [5, 1, 0, 0]), run(net, [5, 5, 4, 3]))
        self.assertEqual(run(beside(net, net), [5, 1, 0, 0]), [10, 10, 8, 6])
        self.assertTrue(net == echo_net())

    def test_enters_that_are_unlike(self):
        one = Net([Form(8, 2, "half", "wrap")], 0, [("in",)], [], 0)
        for form in (Form(9, 2), Form(8, 1), Form(8, 2, "even"), Form(8, 2, "half", "stop"), Form(None, 2)):
            other = Net([Form(8, 2), form], 1, [("in",)], [], 0)
            for pair in ((one, other), (other, one)):
                error = refusal(self, BadNet, beside, *pair)
                self.assertEqual((error.part, error.at), ("enters", None))
            chain(one, other)
        # Alike forms at two numbers are alike.
        self.assertEqual(run(beside(one, Net([Form(), Form(8, 2)], 1, [("in",)], [], 0)), [5]), [10])

    def wide(self, forms, rows, holds):
        """A net with so many of each, hearing by Form(8)."""
        told = [("in",)] * (rows - 1) + [("keep", 0, 0)]
        return Net([Form(8)] * forms, 0, told, [(0, 0, rows - 1)] * holds, 0)

    def test_too_many(self):
        for join, more in ((chain, 1), (beside, 1)):
            for one, other, part in (((6, 3, 3), (6, 3, 3), None), ((6, 3, 3), (7, 3, 3), "forms"),
                                     ((12, 3, 0), (1, 3, 0), "forms"), ((1, 30, 0), (1, 30 - more, 0), None),
                                     ((1, 30, 0), (1, 31 - more, 0), "rows"), ((1, 60, 0), (1, 1 + more, 0), "rows"),
                                     ((1, 3, 3), (1, 3, 4), "holds"), ((1, 3, 6), (1, 3, 1), "holds"),
                                     ((12, 60, 6), (12, 60, 6), "forms"), ((1, 60, 6), (1, 60, 6), "holds")):
                given = (self.wide(*one), self.wide(*other))
                if part is None:
                    self.assertIs(type(join(*given)), Net)
                else:
                    error = refusal(self, BadNet, join, *given)
                    self.assertEqual((error.part, error.at), (part, None), (one, other))


def value_at(net, numbers):
    """The value of a net's out row where its rows have these numbers."""
    return numbers[net.out()] / Fraction(2) ** net.points()[net.out()]


class FreedTest(unittest.TestCase):
    def check(self, net, rows):
        """All parts of the freed net, by the words of the document."""
        chosen = sorted(set(rows))
        order = []
        for row in chosen:
            if net.rows()[row][1] not in order:
                order.append(net.rows()[row][1])
        fresh = {form: len(net.forms()) + at for at, form in enumerate(order)}
        told = asked(self, freed, net, rows)
        forms = [net.forms()[form] for form in order]
        self.assertEqual(told.forms(), net.forms() + [Form(None, form.point, form.manner, form.ends) for form in forms])
        self.assertEqual(told.rows(), [("keep", fresh[row[1]], row[2]) if at in chosen else row
                                       for at, row in enumerate(net.rows())])
        self.assertEqual(told.holds(), [(fresh[form], word, row) if row in chosen else (form, word, row)
                                        for form, word, row in net.holds()])
        self.assertEqual((told.enters(), told.out()), (net.enters(), net.out()))
        return told

    def test_none_some_and_all(self):
        dice = chance(159)
        for net in small_nets(160, 40):
            keeps = net.keeps()
            self.assertTrue(self.check(net, []) == net)
            self.check(net, keeps)
            self.check(net, keeps[::-1])
            for _ in range(3):
                self.check(net, [dice.choice(keeps) for _ in range(dice.randint(1, 6))] if keeps else [])

    def test_by_hand(self):
        forms = [Form(8), Form(4, 1, "up", "stop"), Form(8)]
        rows = [("in",), ("keep", 2, 0), ("keep", 0, 0), ("keep", 1, 0), ("keep", 2, 1), ("keep", 0, 2), ("old", 0)]
        net = Net(forms, 0, rows, [(2, 5, 4), (0, 3, 2), (2, -1, 1)], 6)
        told = freed(rows=[5, 4, 5], net=net)
        self.assertEqual(told.forms(), [*forms, Form(), Form()])
        self.assertEqual(told.rows(), [("in",), ("keep", 2, 0), ("keep", 0, 0), ("keep", 1, 0), ("keep", 3, 1),
                                       ("keep", 4, 2), ("old", 0)])
        self.assertEqual(told.holds(), [(3, 5, 4), (0, 3, 2), (2, -1, 1)])
        told = freed(net, [3, 1])
        self.assertEqual(told.forms(), [*forms, Form(), Form(None, 1, "up", "stop")])
        self.assertEqual(told.rows()[1:5], [("keep", 3, 0), ("keep", 0, 0), ("keep", 4, 0), ("keep", 2, 1)])
        self.assertEqual(told.holds(), [(2, 5, 4), (0, 3, 2), (3, -1, 1)])

    def test_two_rows_by_one_form(self):
        net = Net([Form(8)], 0, [("in",), ("keep", 0, 0), ("keep", 0, 1)], [(0, 7, 2), (0, 8, 1)], 0)
        self.check(net, [1])
        self.check(net, [2])
        self.assertEqual(self.check(net, [2, 1, 2]).forms(), [Form(8), Form()])

    def test_forms_without_a_width_are_put_too(self):
        net = Net([Form()], 0, [("in",), ("keep", 0, 0)], [], 1)
        self.assertEqual(self.check(net, [1]).forms(), [Form(), Form()])

    def test_nothing_goes_over_in_what_is_freed(self):
        net = freed(echo_net(), [4])
        machine = Machine(net)
        for word in (127,) * 20:
            machine.turn(word)
        self.assertEqual(machine.went(), [])
        self.assertGreater(machine.state()[0], 127)

    def test_no_keep_row(self):
        for net in [echo_net(), *small_nets(161, 5)]:
            others = [row for row in range(len(net)) if row not in net.keeps()]
            for thing in [*others, *no_numbers(len(net)), -len(net)]:
                refusal(self, NoChoice, freed, net, [thing])
                refusal(self, NoChoice, freed, net=net, rows=[*net.keeps(), thing])
                refusal(self, NoChoice, freed, net, [thing, *net.keeps()])

    def test_no_list(self):
        for thing in [*other_kinds(), 4, "", "4", (4,), {4: 4}, {4}]:
            if thing != [] or not isinstance(thing, list):
                refusal(self, NoChoice, freed, echo_net(), thing)

    def test_too_many_forms(self):
        rows = [("in",)] + [("keep", at, 0) for at in range(7)]
        net = Net([Form(8)] * 7, 0, rows, [], 0)
        self.assertEqual(len(freed(net, [1, 2, 3, 4, 5]).forms()), 12)
        error = refusal(self, BadNet, freed, net, [1, 2, 3, 4, 5, 6])
        self.assertEqual((error.part, error.at), ("forms", None))
        refusal(self, NoChoice, freed, net, [1, 2, 3, 4, 5, 6, 0])

    def test_what_was_built_is_always_freed(self):
        for enter, keep in PAIRS:
            for top, bottom in itertools.product(TOPS, BOTTOMS):
                for build in (direct, transposed):
                    net = build(top, bottom, 3, enter, keep)
                    self.check(net, net.keeps())
            for ks in KS:
                net = rungs(ks, 3, enter, keep)
                self.check(net, net.keeps())

    def test_the_list_stays(self):
        net, rows = echo_net(), [4, 4]
        told = freed(net, rows)
        self.assertEqual(rows, [4, 4])
        rows.clear()
        self.assertEqual(told.rows()[4], ("keep", 1, 3))
        self.assertTrue(net == echo_net())


class WrappingTest(unittest.TestCase):
    """Nets of one width, one point and wrapping, whose times rows have q 0, without moves."""

    def check(self, net, words):
        width = net.forms()[0].width
        free = freed(net, net.keeps())
        one, other, went = Machine(net), Machine(free), 0
        for word in words:
            out, free_out = one.turn(word), other.turn(word)
            for number, beside_it in zip(one.numbers(), other.numbers()):
                self.assertEqual((number - beside_it) % 2 ** width, 0)
            if net.out() in net.keeps() and net.forms()[0].has(free_out):
                self.assertEqual(out, free_out)
            went = len(one.went())
        return went

    def test_any_net(self):
        dice = chance(162)
        went = 0
        for _ in range(40):
            width, point = dice.choice((2, 4, 8, 64)), dice.choice((-3, 0, 5))
            forms = [Form(width, point, dice.choice(MANNERS), "wrap") for _ in range(dice.randint(1, 3))]
            net = some_net(dice, forms, dice.randint(0, 4), dice.randint(2, 10), 9, 0)
            rows = [("plus", row[2], row[2]) if row[0] == "move" else row for row in net.rows()]
            net = Net(forms, net.enters(), rows, net.holds(), net.out())
            went += self.check(net, some_words(dice, forms[net.enters()], 12))
        self.assertGreater(went, 100)

    def test_sums_that_come_back(self):
        net = direct([1, 1, 1, 1], [], 0, Form(4), Form(4))
        words = [7, 7, -7, -6, 0, 7, 7, -7]
        self.check(net, words)
        self.assertEqual(run(net, words)[3], 1)
        for build in (direct, transposed):
            self.check(build([3, -2], [5, 1], 0, Form(8, 2), Form(8, 2)), [127, -128, 100] * 5)


class InterfaceTest(unittest.TestCase):
    def test_names_and_arguments(self):
        check_interface(self, builds, {"direct": "(top, bottom, point, enter, keep)",
                                       "transposed": "(top, bottom, point, enter, keep)",
                                       "rungs": "(ks, point, enter, keep)", "chain": "(one, other)",
                                       "beside": "(one, other)", "freed": "(net, rows)"})


if __name__ == "__main__":
    unittest.main()

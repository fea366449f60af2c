"""Points 2, 4 and 22 to 25: what a net is made of, what it tells, and what is no net."""

import inspect
import itertools
import unittest

from echobound import nets
from echobound.errors import BadNet
from echobound.forms import Form
from echobound.nets import Net
from tests.helper import (Stranger, asked, chance, echo_net, no_numbers, no_words, other_kinds, plain_points, refusal,
                          some_form, some_net)

NAMES = ("forms", "enters", "rows", "holds", "out")
FORMS = [Form(8, 2), Form(None, 0, "down", "stop"), Form(4, 5, "up", "stop")]
ROWS = [("in",), ("old", 0), ("old", 1), ("times", 3, 2, 1), ("plus", 0, 3), ("less", 4, 2), ("move", -2, 5),
        ("keep", 0, 6), ("keep", 1, 4), ("keep", 2, 4)]
HOLDS = [(0, 5, 7), (1, -300, 8)]


def parts(**other):
    """The parts of a net with a row of every kind; lists of the asker's own."""
    given = {"forms": list(FORMS), "enters": 2, "rows": list(ROWS), "holds": list(HOLDS), "out": 5}
    return {**given, **other}


def told_parts(net):
    return (net.forms(), net.enters(), net.rows(), net.holds(), net.out())


def put(things, at, thing):
    return [*things[:at], thing, *things[at + 1:]]


# Rows that cannot stand behind in, old 0, old 1, times and plus, at place 5, with three forms and two holds.
NO_ROWS = [*other_kinds(), "in", "keep", 7, ["in"], ["plus", 0, 1], (("in",),), ("in", 0),
           ("In",), ("in ",), ("out",), ("form",), ("hold", 0), ("",), (Stranger(),), (Stranger(), 0, 1), (b"in",),
           ([],), ({},), (["in"],), ([], 0, 1), ({"in"},),
           ("old",), ("old", 2), ("old", -1), ("old", "0"), ("old", True), ("old", None), ("old", 0, 0),
           ("old", Stranger()), ("old", [0]),
           ("times",), ("times", 1, 0), ("times", 1, 0, 0, 0), ("times", 2 ** 63, 0, 0), ("times", -2 ** 63, 0, 0),
           ("times", 10 ** 399, 0, 0), ("times", True, 0, 0), ("times", "3", 0, 0), ("times", None, 0, 0),
           ("times", (1, 2), 0, 0), ("times", 1, 65, 0), ("times", 1, -1, 0), ("times", 1, False, 0),
           ("times", 1, None, 0), ("times", 1, "0", 0), ("times", 1, 0, 5), ("times", 1, 0, 6), ("times", 1, 0, -1),
           ("times", 1, 0, True), ("times", 1, 0, None), ("times", 1, 0, "0"), ("times", Stranger(), 0, 0),
           ("plus", 0), ("plus", 0, 1, 2), ("plus", 5, 0), ("plus", 0, 5), ("plus", 0, 9), ("plus", -1, 0),
           ("plus", 0, -1), ("plus", True, 0), ("plus", 0, False), ("plus", "0", "1"), ("plus", 0, None),
           ("less", 0), ("less", 0, 1, 2), ("less", 5, 0), ("less", 0, 5), ("less", 7, 0), ("less", -1, 0),
           ("less", 0, -1), ("less", True, 0), ("less", 0, False), ("less", [0], 1), ("less", None, None),
           ("move", 0), ("move", 0, 0, 0), ("move", 65, 0), ("move", -65, 0), ("move", True, 0), ("move", None, 0),
           ("move", 0, 5), ("move", 0, -1), ("move", 0, False), ("move", "1", 0), ("move", 0, "0"),
           ("keep", 0), ("keep", 0, 0, 0), ("keep", 3, 0), ("keep", -1, 0), ("keep", True, 0), ("keep", 0, 5),
           ("keep", 0, 6), ("keep", 0, -1), ("keep", 0, True), ("keep", "0", 0), ("keep", None, 0),
           ("keep", FORMS[0], 0), ("keep", Form(8, 2), 0)]
NO_HOLDS = [*[thing for thing in other_kinds() if repr(thing) != "(1, 2, 3)"], 0, "a", (0, 0), (0, 0, 7, 0),
            [0, 0, 7], (3, 0, 7), (-1, 0, 7), (True, 0, 7), (None, 0, 7), ("0", 0, 7), (Form(8, 2), 0, 7),
            (Stranger(), 0, 7),
            *[(0, thing, 7) for thing in no_words(FORMS[0])], *[(1, thing, 8) for thing in no_words(FORMS[1])],
            (2, 8, 9), (2, -9, 9)]
NO_LINKS = [(0, 5, 0), (0, 5, 6), (0, 5, 8), (0, 5, 9), (1, 5, 7), (2, 5, 7), (0, 5, 10), (0, 5, -1), (0, 5, -3),
            (0, 5, True), (0, 5, None), (0, 5, "7"), (0, 5, (7,)), (0, 5, Stranger()), (0, 5, 10 ** 30)]
NO_LISTS = [None, True, 0, 1, "", "ab", (), (1,), {}, {0: 1}, b"", Stranger()]


class MadeTest(unittest.TestCase):
    def check(self, net, forms, enters, rows, holds, out):
        self.assertEqual(asked(self, net.forms), forms)
        self.assertEqual(asked(self, net.rows), rows)
        self.assertEqual(asked(self, net.holds), holds)
        self.assertEqual((net.enters(), net.out()), (enters, out))
        self.assertEqual(asked(self, net.points), plain_points(net))
        self.assertEqual(asked(self, net.keeps), [at for at, row in enumerate(rows) if row[0] == "keep"])
        self.assertEqual(net.start(), tuple(hold[1] for hold in holds))
        self.assertIs(type(net.start()), tuple)
        self.assertEqual(len(net), len(rows))
        self.assertEqual(str(net), f"{len(rows)} rows, {len(holds)} holds")
        self.assertEqual(repr(net), f"Net({len(rows)} rows, {len(holds)} holds)")

    def test_every_kind_of_row(self):
        given = parts()
        for net in (Net(**given), Net(*given.values())):
            self.check(net, **given)
        self.assertEqual(Net(**given).points(), [5, 2, 0, 4, 5, 5, 7, 2, 0, 5])
        self.assertEqual(Net(**given).keeps(), [7, 8, 9])
        self.assertEqual(Net(**given).start(), (5, -300))

    def test_the_document_s_example(self):
        net = echo_net()
        self.assertEqual((str(net), repr(net)), ("5 rows, 1 holds", "Net(5 rows, 1 holds)"))
        self.assertEqual((net.points(), net.keeps(), net.start(), len(net)), ([0, 0, 2, 2, 0], [4], (0,), 5))

    def test_one_row_and_no_holds(self):
        self.check(Net([Form()], 0, [("in",)], [], 0), [Form()], 0, [("in",)], [], 0)
        self.assertEqual(Net([Form()], 0, [("in",)], [], 0).start(), ())
        self.assertEqual(Net([Form()], 0, [("in",)], [], 0).keeps(), [])

    def test_one_to_twelve_forms(self):
        for many in range(1, 13):
            forms = [Form(2 + at, at - 6, "far", "stop") for at in range(many)]
            rows = [("in",)] + [("keep", at, 0) for at in range(many)]
            self.check(Net(forms, many - 1, rows, [], many), forms, many - 1, rows, [], many)

    def test_none_to_six_holds(self):
        for many in range(7):
            rows = [("in",)] + [("old", at) for at in range(many)] + [("keep", 0, 0)]
            holds = [(0, at - 3, many + 1) for at in range(many)]
            self.check(Net([Form(3)], 0, rows, holds, 0), [Form(3)], 0, rows, holds, 0)

    def test_one_to_sixty_rows(self):
        kinds = [("in",), ("old", 0), ("times", -7, 0, 1), ("plus", 0, 2), ("less", 3, 3), ("move", 0, 4),
                 ("keep", 0, 5)]
        for many in range(7, 61):
            rows = kinds + [kinds[at % 7] for at in range(many - 7)]
            self.check(Net([Form(9, 3)], 0, rows, [(0, 1, 6)], many - 1), [Form(9, 3)], 0, rows, [(0, 1, 6)], many - 1)
        self.assertEqual(len(Net([Form()], 0, [("in",)] * 60, [], 59)), 60)

    def test_numbers_at_their_ends(self):
        end = 2 ** 63 - 1
        rows = [("in",), ("times", end, 64, 0), ("times", -end, 0, 1), ("times", 0, 64, 2), ("move", -64, 3),
                ("move", -8, 4), ("move", 64, 0), ("move", 64, 6), ("move", 64, 7), ("move", 8, 8)]
        net = Net([Form(64, 0)], 0, rows, [], 9)
        self.assertEqual(net.points(), [0, 64, 64, 128, 192, 200, -64, -128, -192, -200])
        self.check(net, [Form(64, 0)], 0, rows, [], 9)
        rows = [("in",), ("old", 0), ("keep", 1, 0), ("plus", 0, 1)]
        net = Net([Form(2, 64), Form(64, -64)], 0, rows, [(1, 2 ** 63 - 1, 2)], 3)
        self.assertEqual(net.points(), [64, -64, -64, 64])

    def test_any_net(self):
        dice = chance(81)
        for _ in range(60):
            forms = [some_form(dice, points=(-64, -3, 0, 7, 64)) for _ in range(dice.randint(1, 12))]
            net = some_net(dice, forms, dice.randint(0, 6), dice.randint(1, 20), 2 ** 63 - 1, 6)
            self.check(net, *told_parts(net))
            self.check(Net(*told_parts(net)), *told_parts(net))

    def test_lists_handed_in_or_told(self):
        given = parts()
        net = Net(**given)
        self.assertEqual(given, parts())
        for name in ("forms", "rows", "holds"):
            given[name].clear()
            given[name].append("spoiled")
        self.check(net, **parts())

    def test_names_and_arguments(self):
        wanted = {name: "(self)" for name in ("forms", "rows", "holds", "points", "keeps", "enters", "out", "start",
                                              "__len__", "__str__", "__repr__")}
        wanted["__init__"] = "(self, forms, enters, rows, holds, out)"
        wanted["__eq__"] = "(self, other)"
        for name, arguments in wanted.items():
            self.assertEqual(str(inspect.signature(vars(Net)[name])), arguments)
        self.assertEqual(Net.__module__, nets.__name__)


class AlikeTest(unittest.TestCase):
    def test_alike(self):
        self.assertIs(Net(**parts()) == Net(**parts()), True)
        self.assertIs(Net(**parts()) != Net(**parts()), False)
        self.assertIs(echo_net() == echo_net(), True)

    def test_one_part_differs(self):
        others = {"forms": [put(FORMS, 0, Form(9, 2)), put(FORMS, 0, Form(8, 3)),
                            put(FORMS, 1, Form(16, 0, "down", "stop")), put(FORMS, 2, Form(4, 5, "up")),
                            [*FORMS, Form()]],
                  "enters": [0, 1],
                  "rows": [put(ROWS, 3, ("times", 3, 1, 1)), put(ROWS, 3, ("times", -3, 2, 1)),
                           put(ROWS, 4, ("plus", 3, 0)), put(ROWS, 4, ("less", 0, 3)), [*ROWS, ("in",)],
                           put(ROWS, 1, ("old", 1))],
                  "holds": [[(0, 4, 7), HOLDS[1]], [HOLDS[0]] * 2, [*HOLDS, HOLDS[0]], HOLDS[::-1]],
                  "out": [0, 4, 9]}
        for name, things in others.items():
            for thing in things:
                net = Net(**parts(**{name: thing}))
                self.assertIs(net == Net(**parts()), False, thing)
                self.assertIs(Net(**parts()) == net, False, thing)
                self.assertIs(net != Net(**parts()), True, thing)

    def test_what_is_no_net(self):
        net = Net(**parts())
        for thing in [*other_kinds(), "10 rows, 2 holds", tuple(parts().values()), parts(), len(net), Form(8)]:
            self.assertIs(net == thing, False)
            self.assertIs(net != thing, True)


class NoNetTest(unittest.TestCase):
    def refused(self, part, at, **other):
        given = parts(**other)
        for error in (refusal(self, BadNet, Net, **given), refusal(self, BadNet, Net, *given.values())):
            self.assertEqual((error.part, error.at), (part, at), other)

    def test_lists_that_are_none(self):
        for part, least, most, thing in (("forms", 1, 12, Form(8)), ("rows", 1, 60, ("in",)),
                                         ("holds", 0, 6, HOLDS[0])):
            for wrong in NO_LISTS:
                self.refused(part, None, **{part: wrong})
            self.refused(part, None, **{part: tuple(parts()[part])})
            self.refused(part, None, **{part: [thing] * (most + 1)})
            self.refused(part, None, **{part: [thing] * most + ["spoiled"]})
            self.refused(part, None, **{part: ["spoiled"] * (most + 5)})
            if least:
                self.refused(part, None, **{part: []})

    def test_forms(self):
        for thing in [*other_kinds(), "8.0 half wrap", 8, (8, 0, "half", "wrap"), [Form(8)], Form]:
            for at in range(3):
                self.refused("forms", at, forms=put(FORMS, at, thing))
            self.refused("forms", 1, forms=[FORMS[0], thing, thing])

    def test_enters(self):
        for thing in no_numbers(3):
            self.refused("enters", None, enters=thing)
        self.refused("enters", None, enters=Form(8, 2))

    def test_holds(self):
        for thing in NO_HOLDS:
            self.refused("holds", 0, holds=[thing, HOLDS[1]])
            self.refused("holds", 1, holds=[HOLDS[0], thing, thing])
            self.refused("holds", 2, holds=[*HOLDS, thing])

    def test_first_words_at_their_ends(self):
        for form in (Form(4), Form(64, 3, "up", "stop")):
            for word in (form.least(), form.greatest()):
                self.assertEqual(Net([form], 0, [("in",), ("keep", 0, 0)], [(0, word, 1)], 1).start(), (word,))
            for word in (form.least() - 1, form.greatest() + 1):
                error = refusal(self, BadNet, Net, [form], 0, [("in",), ("keep", 0, 0)], [(0, word, 1)], 1)
                self.assertEqual((error.part, error.at), ("holds", 0))

    def test_rows(self):
        for thing in NO_ROWS:
            self.refused("rows", 5, rows=put(ROWS, 5, thing))
            self.refused("rows", 5, rows=[*ROWS[:5], thing, thing])
        for at in range(10):
            self.refused("rows", at, rows=put(ROWS, at, ("plus", at, at)))
            self.refused("rows", at, rows=put(ROWS, at, None))

    def test_a_row_behind_none(self):
        for row in (("times", 1, 0, 0), ("plus", 0, 0), ("less", 0, 0), ("move", 0, 0), ("keep", 0, 0)):
            self.refused("rows", 0, rows=[row, *ROWS])
        self.assertEqual(len(Net(**parts(rows=[("old", 1), *ROWS[1:]]))), 10)

    def test_points_too_far(self):
        for sign in (1, -1):
            up = [("move", -64 * sign, at) for at in range(3)]
            for last, good in ((8, True), (9, False), (64, False)):
                rows = [("in",), *up, ("move", -last * sign, 3), ("in",)]
                given = {"forms": [Form(8)], "enters": 0, "rows": rows, "holds": [], "out": 0}
                if good:
                    self.assertEqual(Net(**given).points()[4], 200 * sign)
                else:
                    self.refused("rows", 4, **given)
        rows = [("in",), ("times", 1, 64, 0), ("times", 1, 64, 1), ("times", 1, 64, 2)]
        given = {"forms": [Form(8)], "enters": 0, "holds": [], "out": 0}
        self.assertEqual(Net(**given, rows=[*rows, ("times", 1, 8, 3)]).points()[4], 200)
        self.refused("rows", 4, **given, rows=[*rows, ("times", 1, 9, 3), ("times", 2 ** 63, 0, 0)])

    def test_olds_without_holds(self):
        self.refused("rows", 1, holds=[])
        self.refused("rows", 2, holds=HOLDS[:1])

    def test_links(self):
        for thing in NO_LINKS:
            self.refused("links", 0, holds=[thing, HOLDS[1]])
            self.refused("links", 1, holds=[HOLDS[1], thing, thing])

    def test_out(self):
        for thing in no_numbers(10):
            self.refused("out", None, out=thing)

    def test_alike_forms_are_not_the_very_form(self):
        given = {"forms": [Form(8), Form(8)], "enters": 0, "rows": [("in",), ("keep", 1, 0)], "out": 0}
        self.refused("links", 0, **given, holds=[(0, 0, 1)])
        self.assertEqual(Net(**given, holds=[(1, 0, 1)]).start(), (0,))

    def test_the_first_part_amiss(self):
        # A hold has one place for both holds and links, so each is amiss at a place of its own.
        wrong = {"forms": (1, {"forms": put(FORMS, 1, None)}), "enters": (None, {"enters": 3}),
                 "holds": (0, {"holds": [(0, 128, 7), HOLDS[1]]}), "rows": (9, {"rows": put(ROWS, 9, ("keep", 3, 4))}),
                 "links": (1, {"holds": [HOLDS[0], (1, -300, 7)]}), "out": (None, {"out": 10})}
        both = {"holds": [(0, 128, 7), (1, -300, 7)]}
        for many in (1, 2, 3, 6):
            for chosen in itertools.combinations(wrong, many):
                given = {}
                for part in chosen:
                    given.update(wrong[part][1])
                if "holds" in chosen and "links" in chosen:
                    given.update(both)
                self.refused(chosen[0], wrong[chosen[0]][0], **given)

    def test_lists_amiss_ahead_of_others(self):
        self.refused("forms", None, forms=[], enters=None, rows=None, holds=None, out=None)
        self.refused("enters", None, enters=None, rows=None, holds=None, out=None)
        self.refused("holds", None, rows=None, holds=None, out=None)
        self.refused("rows", None, rows=None, holds=[(0, 5, None)], out=None)
        self.refused("links", 0, holds=[(0, 5, None)], rows=[ROWS[0]], out=None)

    def test_what_is_handed_in_stays(self):
        given = parts(out=None)
        refusal(self, BadNet, Net, **given)
        self.assertEqual(given, parts(out=None))


if __name__ == "__main__":
    unittest.main()

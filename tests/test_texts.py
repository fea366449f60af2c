"""Points 2, 4 and 57 to 60: fractions, ways, forms and nets as texts, and back."""

import copy
import unittest

from echobound import texts
from echobound.builds import direct, rungs
from echobound.errors import BadNet, NoText
from echobound.forms import Form
from echobound.nets import Net
from echobound.texts import (read_form, read_fraction, read_net, read_way, show_form, show_fraction, show_net, show_way)
from tests.helper import (LONG, MANNERS, Stranger, asked, chance, check_interface, echo_net, other_kinds, refusal,
                          some_nets)

NINES = 10 ** 400 - 1
NO_NUMBERS = ["00", "01", "007", "-0", "-00", "-01", "+0", "+1", "--1", "-", "+", "-+1", "1-", "1.0", "1.", ".1", "1e3",
              "1_000", "1,000", "0x1", "a", "one", " 1", "1 ", " ", "1\n", "\n", "\n1", "1\t", "- 1", "1/", "/1", "/",
              "(1)", "True", "None", "1" + "0" * 400, "-1" + "0" * 400, "0" * 400, "1~", "!1"]
NO_TEXTS = [*other_kinds(), 0, 5, -3, ["1"], ("1",), b"", b"1/2", Stranger(), ["form 8.0 half wrap"], echo_net(),
            Form()]
EXAMPLE = ["form 8.0 half wrap", "enters 0", "in", "old 0", "times 3 2 1", "plus 0 2", "keep 0 3", "hold 0 0 4",
           "out 4"]


def all_kinds_of_rows():
    """A net with each kind of row, two forms and two holds."""
    forms = [Form(8, 4, "even", "stop"), Form(None, -2, "in", "stop"), Form(64, 64, "far")]
    rows = [("in",), ("old", 1), ("times", -2 ** 63 + 1, 64, 0), ("plus", 0, 1), ("less", 3, 0), ("move", -64, 4),
            ("keep", 1, 5), ("old", 0), ("move", 3, 7), ("keep", 0, 8), ("times", 0, 0, 9)]
    return Net(forms, 0, rows, [(0, -128, 9), (1, 10 ** 399, 6)], 10)


class FractionTest(unittest.TestCase):
    def check(self, one, text):
        self.assertEqual(asked(self, show_fraction, one), text)
        told = asked(self, read_fraction, text)
        self.assertEqual((told, type(told), [type(part) for part in told]), (one, tuple, [int, int]))

    def test_by_hand(self):
        for one, text in (((0, 1), "0"), ((1, 1), "1"), ((-1, 1), "-1"), ((-3, 4), "-3/4"), ((3, 4), "3/4"),
                          ((10, 1), "10"), ((100, 3), "100/3"), ((1, 10), "1/10"), ((-1, 100), "-1/100"),
                          ((12345678901234567890, 7), "12345678901234567890/7")):
            self.check(one, text)
        self.assertEqual(show_fraction(one=(-3, 4)), "-3/4")
        self.assertEqual(read_fraction(text="-3/4"), (-3, 4))

    def test_four_hundred_figures_and_one_more(self):
        self.check((NINES, 1), "9" * 400)
        self.check((-NINES, 1), "-" + "9" * 400)
        self.check((NINES, NINES - 1), "9" * 400 + "/" + "9" * 399 + "8")
        self.check((-1, LONG), f"-1/{LONG}")
        for text in ("1" + "0" * 400, "-1" + "0" * 400, "1/" + "1" + "0" * 400, "1" + "0" * 400 + "/3"):
            self.assertEqual(refusal(self, NoText, read_fraction, text).line, 0)
        self.assertEqual(show_fraction((10 ** 400, 3)), "1" + "0" * 400 + "/3")
        self.assertEqual(len(show_fraction((10 ** 3000, 1))), 3001)

    def test_any(self):
        dice = chance(571)
        for figures in (1, 2, 9, 100):
            for _ in range(50):
                top, bottom = dice.randint(-10 ** figures, 10 ** figures), dice.randint(1, 10 ** figures)
                one = (top, bottom)
                while bottom:
                    top, bottom = bottom, top % bottom
                one = (one[0] // top, one[1] // top)
                self.check(one, str(one[0]) if one[1] == 1 else f"{one[0]}/{one[1]}")

    def test_refused(self):
        numbers = [text for text in NO_NUMBERS]
        wrong = [*numbers, "", "1/1", "0/1", "5/1", "2/4", "0/2", "6/3", "-6/3", "-2/4", "1/0", "0/0", "1/-2", "-1/-2",
                 "1/2/3", "1//2", "1 /2", "1/ 2", "1/2 ", " 1/2", "1/2\n", "3 4", "1/02", "01/2", "-0/3", "+1/2",
                 "1/+2",
                 "1\\2", "1:2", "1/a", "a/2", "1/2/", "/1/2", "-/2", "1/-"]
        wrong += [f"{text}/3" for text in numbers] + [f"1/{text}" for text in numbers]
        for text in [*wrong, *NO_TEXTS]:
            self.assertEqual(refusal(self, NoText, read_fraction, text).line, 0)
            self.assertEqual(refusal(self, NoText, read_fraction, text=text).line, 0)


class WayTest(unittest.TestCase):
    def check(self, words, text):
        self.assertEqual(asked(self, show_way, words), text)
        self.assertEqual(asked(self, show_way, tuple(words)), text)
        told = asked(self, read_way, text)
        self.assertEqual((told, type(told)), (words, list))

    def test_by_hand(self):
        for words, text in (([], ""), ([0], "0"), ([5, -3, 0], "5 -3 0"), ([-1], "-1"), ([10, 100], "10 100"),
                            ([NINES, -NINES], "9" * 400 + " -" + "9" * 400), (list(range(200)), None)):
            self.check(words, " ".join(map(str, words)) if text is None else text)
        self.assertEqual((show_way(words=(1, 2)), read_way(text="1 2")), ("1 2", [1, 2]))

    def test_refused(self):
        wrong = [*NO_NUMBERS, "1  2", " 1 2", "1 2 ", "1,2", "1, 2", "[1, 2]", "1 a", "1 -", "1 +2", "1/2", "1 2/3",
                 "1\n2", "1 02", "0 -0", "  "]
        wrong += [f"{text} 1" for text in NO_NUMBERS] + [f"1 {text}" for text in NO_NUMBERS]
        for text in [*wrong, *NO_TEXTS]:
            self.assertEqual(refusal(self, NoText, read_way, text).line, 0)
            self.assertEqual(refusal(self, NoText, read_way, text=text).line, 0)


class FormTest(unittest.TestCase):
    def test_each_form_and_back(self):
        for width in (None, 2, 3, 8, 10, 63, 64):
            for point in (-64, -10, -1, 0, 1, 9, 64):
                for manner in MANNERS:
                    for ends in ("wrap", "stop"):
                        form = Form(width, point, manner, ends)
                        text = f"{'free' if width is None else width}.{point} {manner} {ends}"
                        self.assertEqual((show_form(form), str(form)), (text, text))
                        told = read_form(text)
                        self.assertTrue(told == form)
        self.assertEqual(asked(self, show_form, Form(8, 4)), "8.4 half wrap")
        self.assertEqual(show_form(form=Form(None, -2, "in", "stop")), "free.-2 in stop")
        self.assertTrue(read_form(text="free.-2 in stop") == Form(None, -2, "in", "stop"))

    def test_refused(self):
        wrong = ["", " ", "8.4", "8.4 half", "8.4 wrap", "half wrap", "8.4 wrap half", "half 8.4 wrap", "wrap half 8.4",
                 "half wrap 8.4", "8.4 half wrap stop", "8.4 half wrap ", " 8.4 half wrap", "8.4  half wrap",
                 "8.4 half  wrap", "8.4 half wrap\n", "8.4 Half wrap", "8.4 HALF wrap", "8.4 halves wrap",
                 "8.4 half wraps", "8.4 half", "8 4 half wrap", "8,4 half wrap", "8.4.1 half wrap", "8. half wrap",
                 ".4 half wrap", ". half wrap", "8 half wrap", "4 half wrap", "free half wrap", "Free.4 half wrap",
                 "None.4 half wrap", "free.free half wrap", "8.free half wrap", "fre.4 half wrap", "free.4.4 half wrap",
                 "1.4 half wrap", "0.4 half wrap", "-8.4 half wrap", "65.4 half wrap", "8.65 half wrap",
                 "8.-65 half wrap", "08.4 half wrap", "8.04 half wrap", "8.-0 half wrap", "8.+4 half wrap",
                 "+8.4 half wrap", "8.4 half stop wrap", "Form(8, 4, 'half', 'wrap')", "8.4 half.wrap",
                 "8.4 half\nwrap", "8.4\thalf\twrap", "a.4 half wrap", "8.a half wrap", "8.4 4 wrap",
                 "8." + "1" * 401 + " half wrap", "1" * 401 + ".4 half wrap", "form 8.4 half wrap"]
        wrong += [f"{text}.4 half wrap" for text in NO_NUMBERS] + [f"8.{text} half wrap" for text in NO_NUMBERS]
        for text in [*wrong, *NO_TEXTS]:
            self.assertEqual(refusal(self, NoText, read_form, text).line, 0, text)
            self.assertEqual(refusal(self, NoText, read_form, text=text).line, 0)


class NetTest(unittest.TestCase):
    def check(self, net):
        text = asked(self, show_net, net)
        lines = [f"form {form}" for form in net.forms()] + [f"enters {net.enters()}"]
        lines += [" ".join(map(str, row)) for row in net.rows()]
        lines += ["hold " + " ".join(map(str, hold)) for hold in net.holds()] + [f"out {net.out()}"]
        self.assertEqual(text, "\n".join(lines))
        told = asked(self, read_net, text)
        self.assertIsInstance(told, Net)
        self.assertTrue(told == net)
        self.assertEqual(show_net(told), text)

    def test_by_hand(self):
        self.assertEqual(show_net(echo_net()), "\n".join(EXAMPLE))
        self.assertTrue(read_net(text="\n".join(EXAMPLE)) == echo_net())
        self.assertEqual(show_net(net=Net([Form()], 0, [("in",)], [], 0)), "form free.0 half wrap\nenters 0\nin\nout 0")

    def test_each_kind_of_row(self):
        self.check(all_kinds_of_rows())
        self.check(rungs([1, -2, 3, 4, 5, 6], 3, Form(8), Form(16, 3)))
        self.check(direct([10 ** 18 - 1, -1], [0, 5], 64, Form(), Form(2)))

    def test_any_net(self):
        for net in some_nets(591, 60):
            self.check(net)

    def refused(self, lines, line):
        text = lines if isinstance(lines, str) else "\n".join(lines)
        self.assertEqual(refusal(self, NoText, read_net, text).line, line, text)
        self.assertEqual(refusal(self, NoText, read_net, text=text).line, line)

    def test_what_is_no_text(self):
        for thing in [*NO_TEXTS, EXAMPLE]:
            self.assertEqual(refusal(self, NoText, read_net, thing).line, 0)

    def test_what_ends_ahead_of_out(self):
        for many in range(1, len(EXAMPLE)):
            self.refused(EXAMPLE[:many], many + 1)
            self.refused("\n".join(EXAMPLE[:many]) + "\n", many + 1)
        self.refused("", 1)

    def test_lines_without_signs(self):
        for at in range(len(EXAMPLE) + 1):
            self.refused([*EXAMPLE[:at], "", *EXAMPLE[at:]], at + 1)
            self.refused([*EXAMPLE[:at], " ", *EXAMPLE[at:]], at + 1)
            self.refused([*EXAMPLE[:at], "", ""], at + 1)
        self.refused("\n", 1)
        self.refused("\n".join(EXAMPLE) + "\n", len(EXAMPLE) + 1)

    def test_the_first_line_that_cannot_stand_there(self):
        wrong = ["x", "In", "in 0", "in ", " in", "old", "old 0 0", "old a", "old  0", "old 0 ", "times 3 2", "plus 0",
                 "times 3 2 1 0", "plus 0 2 1", "less 1", "less 1 2 3", "move 1", "move 1 2 3", "keep 0", "keep 0 3 4",
                 "keep 0 3.0", "hold 0 0", "hold 0 0 4 4", "hold", "out", "out 4 4", "out a", "enters", "enters 0 0",
                 "enters a", "form", "form ", "form 8.0", "form 1.0 half wrap", "form 8.0 half", "form  8.0 half wrap",
                 "form 8.0 half wrap ", "forms 8.0 half wrap", "row 1 2", "out +4", "out -0", "old 00",
                 "times 1" + "0" * 400 + " 2 1", "8.0 half wrap", "('in',)", "net", "plus 0 /2", "plus 0,2"]
        for at, line in enumerate(EXAMPLE):
            for thing in wrong:
                self.refused([*EXAMPLE[:at], thing, *EXAMPLE[at + 1:]], at + 1)
                self.refused([*EXAMPLE[:at], thing, *EXAMPLE[at:]], at + 1)
                # The first one is told, whatever comes behind it.
                self.refused([*EXAMPLE[:at], thing, "worse", ""], at + 1)

    def test_good_lines_at_a_wrong_place(self):
        form, enters, row, hold, out = EXAMPLE[0], EXAMPLE[1], EXAMPLE[2], EXAMPLE[7], EXAMPLE[8]
        for lines, line in (([enters, form], 2), ([row], 1), ([hold], 1), ([out], 1), ([form, row], 2),
                            ([form, hold], 2),
                            ([form, out], 2), ([form, enters, enters], 3), ([form, enters, form], 3),
                            ([form, enters, row, form], 4), ([form, enters, row, enters], 4),
                            ([form, enters, row, hold, row], 5), ([form, enters, row, hold, form], 5),
                            ([form, enters, row, hold, enters], 5), ([form, enters, row, out, row], 5),
                            ([form, enters, row, out, hold], 5), ([form, enters, row, out, out], 5),
                            ([form, enters, row, out, form], 5), ([form, enters, row, hold, out, out], 6),
                            ([form, form, form, row], 4), ([enters, out, out], 3), ([enters, hold, row], 3)):
            self.refused(lines, line)
            self.refused([*lines, "worse"], line)

    def test_lines_that_make_no_net(self):
        long = "9" * 400
        for lines, part, at in ((["enters 0", "in", "out 0"], "forms", None), (["enters 0", "out 0"], "forms", None),
                                ([EXAMPLE[0]] * 13 + ["enters 0", "in", "out 0"], "forms", None),
                                ([EXAMPLE[0], "enters 1", "in", "out 0"], "enters", None),
                                ([EXAMPLE[0], "enters -1", "in", "out 0"], "enters", None),
                                ([EXAMPLE[0], f"enters {long}", "in", "out 0"], "enters", None),
                                ([EXAMPLE[0], "enters 0", "out 0"], "rows", None),
                                ([EXAMPLE[0], "enters 0", *["in"] * 61, "out 0"], "rows", None),
                                ([EXAMPLE[0], "enters 0", "in", "plus 0 1", "out 0"], "rows", 1),
                                ([EXAMPLE[0], "enters 0", "in", "times 1 65 0", "out 0"], "rows", 1),
                                ([EXAMPLE[0], "enters 0", "in", f"times {long} 0 0", "out 0"], "rows", 1),
                                ([EXAMPLE[0], "enters 0", "in", "in", "old 0", "out 0"], "rows", 2),
                                ([EXAMPLE[0], "enters 0", "in", "keep 0 0", "hold 1 0 1", "out 0"], "holds", 0),
                                ([EXAMPLE[0], "enters 0", "in", "keep 0 0", "hold 0 0 1", "hold 0 128 1", "out 0"],
                                 "holds", 1),
                                ([EXAMPLE[0], "enters 0", "in", "keep 0 0", *["hold 0 0 1"] * 7, "out 0"],
                                 "holds", None),
                                ([EXAMPLE[0], "enters 0", "in", "keep 0 0", "hold 0 0 0", "out 0"], "links", 0),
                                ([EXAMPLE[0], "enters 0", "in", "keep 0 0", "hold 0 0 -1", "out 0"], "links", 0),
                                ([EXAMPLE[0], "enters 0", "in", "out 1"], "out", None),
                                ([EXAMPLE[0], "enters 0", "in", "out -1"], "out", None),
                                ([EXAMPLE[0], "enters 9", "hold 9 9 9", "out 9"], "enters", None)):
            refused = refusal(self, BadNet, read_net, "\n".join(lines))
            self.assertEqual((refused.part, refused.at), (part, at))
            # A line that cannot stand there is told ahead of what makes no net.
            self.refused([*lines, "out 0"], len(lines) + 1)
            self.refused(["in", *lines], 1)

    def test_just_what_is_written(self):
        dice = chance(592)
        text = "\n".join(EXAMPLE)
        for _ in range(400):
            at = dice.randrange(len(text))
            sign = dice.choice(" 0123456789-abdefhilmnoprstuw.\n~")
            changed = dice.choice((text[:at] + sign + text[at + 1:], text[:at] + sign + text[at:],
                                   text[:at] + text[at + 1:]))
            try:
                net = read_net(changed)
            except (NoText, BadNet):
                continue
            self.assertEqual(show_net(net), changed)


class InterfaceTest(unittest.TestCase):
    def test_names_and_arguments(self):
        check_interface(self, texts, {"show_fraction": "(one)", "show_way": "(words)", "show_form": "(form)",
                                      "show_net": "(net)", "read_fraction": "(text)", "read_way": "(text)",
                                      "read_form": "(text)", "read_net": "(text)"})

    def test_what_is_shown_stays(self):
        net, form, words = all_kinds_of_rows(), Form(8, 4), [1, 2]
        before = copy.deepcopy((net, form, words))
        show_net(net), show_form(form), show_way(words)
        self.assertTrue((net, form, words) == before)


if __name__ == "__main__":
    unittest.main()

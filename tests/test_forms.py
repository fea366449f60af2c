"""Points 6 to 10: forms, values kept, bits, words added, == and texts."""

import inspect
import itertools
import unittest
from fractions import Fraction

from echobound.errors import BadForm, NoText, Unfit
from echobound.forms import Form
from echobound.fractions import is_fraction
from echobound.rounding import rounded
from tests.helper import MANNERS, as_number, as_pair, no_words, other_kinds, refusal

WIDTHS = (None, 2, 3, 8, 63, 64)
POINTS = (-64, -2, 0, 1, 4, 64)
ENDS = ("wrap", "stop")
GOOD = {"width": 8, "point": 4, "manner": "even", "ends": "stop"}
PARTS = ("width", "point", "manner", "ends")
WRONG = {
    "width": [1, 65, 0, -1, -8, 10 ** 30, "8", "free", "", *[thing for thing in other_kinds() if thing is not None]],
    "point": [65, -65, 10 ** 30, "4", "", *other_kinds()],
    "manner": ["", "Half", "half ", "near", "wrap", 0, 1, *other_kinds()],
    "ends": ["", "Wrap", "wrap ", "half", "wra", 0, 1, *other_kinds()],
}


def all_forms():
    return [Form(*parts) for parts in itertools.product(WIDTHS, POINTS, MANNERS, ENDS)]


def words_near_the_ends(form):
    if form.width is None:
        return [0, 1, -1, 5, -6, 10 ** 399, -10 ** 399]
    least, greatest = -2 ** (form.width - 1), 2 ** (form.width - 1) - 1
    return sorted({least, least + 1, -1, 0, 1, greatest - 1, greatest})


class PartsTest(unittest.TestCase):
    def test_fields(self):
        for parts in itertools.product(WIDTHS, POINTS, MANNERS, ENDS):
            form = Form(*parts)
            self.assertEqual((form.width, form.point, form.manner, form.ends), parts)
            named = Form(ends=parts[3], manner=parts[2], point=parts[1], width=parts[0])
            self.assertEqual((named.width, named.point, named.manner, named.ends), parts)

    def test_every_width_and_point(self):
        for width in range(2, 65):
            self.assertEqual(Form(width).width, width)
        for point in range(-64, 65):
            self.assertEqual(Form(8, point).point, point)

    def test_parts_left_out(self):
        for form, parts in [(Form(), (None, 0, "half", "wrap")), (Form(8), (8, 0, "half", "wrap")),
                            (Form(8, 3), (8, 3, "half", "wrap")), (Form(8, 3, "in"), (8, 3, "in", "wrap")),
                            (Form(ends="stop"), (None, 0, "half", "stop")), (Form(point=-7), (None, -7, "half", "wrap")),
                            (Form(manner="up"), (None, 0, "up", "wrap"))]:
            self.assertEqual((form.width, form.point, form.manner, form.ends), parts)

    def test_one_part_amiss(self):
        for part in PARTS:
            for thing in WRONG[part]:
                given = {**GOOD, part: thing}
                self.assertEqual(refusal(self, BadForm, Form, **given).part, part, thing)
                self.assertEqual(refusal(self, BadForm, Form, *given.values()).part, part, thing)

    def test_the_first_part_amiss(self):
        for amiss in itertools.product((False, True), repeat=4):
            if not any(amiss):
                continue
            for at in range(3):
                given = {part: WRONG[part][at] if wrong else GOOD[part] for part, wrong in zip(PARTS, amiss)}
                first = PARTS[amiss.index(True)]
                self.assertEqual(refusal(self, BadForm, Form, **given).part, first, given)

    def test_all_parts_of_other_kinds(self):
        for thing in other_kinds():
            first = "point" if thing is None else "width"
            self.assertEqual(refusal(self, BadForm, Form, thing, thing, thing, thing).part, first)

    def test_a_form_never_changes(self):
        form = Form(4, 1, "down", "stop")
        before = dict(vars(form))
        words = [7, 7, -8]
        form.least(), form.greatest(), form.has(3), form.step(), form.slack(), form.value(3), form.kept((99, 7))
        form.bits(3), form.word_of("0011"), form.added(words), str(form), repr(form)
        refusal(self, Unfit, form.value, 8)
        refusal(self, Unfit, form.bits, 8)
        refusal(self, Unfit, form.added, [1, 8])
        refusal(self, NoText, form.word_of, "011")
        self.assertEqual(vars(form), before)
        self.assertEqual(words, [7, 7, -8])

    def test_names_and_arguments(self):
        wanted = {"least": "(self)", "greatest": "(self)", "has": "(self, thing)", "step": "(self)",
                  "slack": "(self)", "value": "(self, word)", "kept": "(self, value)", "bits": "(self, word)",
                  "word_of": "(self, bits)", "added": "(self, words)",
                  "__init__": "(self, width=None, point=0, manner='half', ends='wrap')"}
        for name, arguments in wanted.items():
            self.assertEqual(str(inspect.signature(vars(Form)[name])), arguments)
        for name in ("__eq__", "__str__", "__repr__"):
            self.assertIn(name, vars(Form))
        self.assertEqual(Form.__module__, "echobound.forms")


class WordsTest(unittest.TestCase):
    def test_least_and_greatest(self):
        self.assertEqual((Form(4).least(), Form(4).greatest()), (-8, 7))
        for width in range(2, 65):
            for ends in ENDS:
                form = Form(width, 3, "up", ends)
                self.assertEqual((form.least(), form.greatest()), (-2 ** (width - 1), 2 ** (width - 1) - 1))
        self.assertIsNone(Form(None).least())
        self.assertIsNone(Form(None, 7, "in", "stop").greatest())

    def test_has(self):
        for form in all_forms():
            for word in words_near_the_ends(form):
                self.assertIs(form.has(word), True, (form, word))
            for thing in no_words(form):
                self.assertIs(form.has(thing), False, (form, thing))
        self.assertIs(Form(4).has(thing=8), False)
        self.assertIs(Form(4).has(thing=-8), True)

    def test_each_number_near_a_small_form(self):
        for width in (2, 3, 4):
            form = Form(width)
            words = [number for number in range(-40, 41) if form.has(number)]
            self.assertEqual(words, list(range(-2 ** (width - 1), 2 ** (width - 1))))

    def test_step(self):
        for point in range(-64, 65):
            step = Form(8, point).step()
            self.assertEqual(as_number(step), Fraction(1, 2) ** point)
            self.assertTrue(is_fraction(step))
        self.assertEqual(Form(8, 4).step(), (1, 16))
        self.assertEqual(Form(8, -2).step(), (4, 1))

    def test_slack(self):
        slacks = {manner: Form(8, 4, manner, "stop").slack() for manner in MANNERS}
        self.assertEqual(slacks, {"down": (1, 1), "up": (1, 1), "in": (1, 1), "out": (1, 1),
                                  "half": (1, 2), "even": (1, 2), "far": (1, 2)})

    def test_value(self):
        for form in all_forms():
            for word in words_near_the_ends(form):
                value = form.value(word)
                self.assertEqual(as_number(value), word * Fraction(1, 2) ** form.point)
                self.assertTrue(is_fraction(value))
        self.assertEqual(Form(8, 4).value(word=12), (3, 4))
        self.assertEqual(Form(8, -3).value(-5), (-40, 1))
        self.assertEqual(Form(8, 4).value(0), (0, 1))

    def test_value_of_no_word(self):
        for form in (Form(2), Form(4, 3, "in", "stop"), Form(64, -64), Form(), Form(None, 9, "up", "stop")):
            for thing in no_words(form):
                self.assertEqual(refusal(self, Unfit, form.value, thing).at, 0)
                self.assertEqual(refusal(self, Unfit, form.value, word=thing).at, 0)


def kept_by_search(form, value):
    """The told pair, by looking at all words of a small form for the one that the document names."""
    n = rounded(as_pair(as_number(value) * Fraction(2) ** form.point), form.manner)
    words = list(range(-2 ** (form.width - 1), 2 ** (form.width - 1)))
    if n in words:
        return (n, 0)
    if form.ends == "stop":
        word = min(words, key=lambda one: abs(one - n))
    else:
        word = [one for one in words if (n - one) % 2 ** form.width == 0][0]
    return (word, n - word)


class KeptTest(unittest.TestCase):
    def test_small_forms(self):
        eighths = [Fraction(n, 8) for n in range(-200, 201)] + [Fraction(n, 7) for n in range(-60, 61)]
        for width, point, manner, ends in itertools.product((2, 4), (-1, 0, 2), MANNERS, ENDS):
            form = Form(width, point, manner, ends)
            for value in eighths:
                pair = as_pair(value)
                self.assertEqual(form.kept(pair), kept_by_search(form, pair), (form, value))

    def test_words_are_kept_as_themselves(self):
        for form in all_forms():
            for word in words_near_the_ends(form):
                self.assertEqual(form.kept(form.value(word)), (word, 0))

    def test_just_beyond_both_ends(self):
        for width in (2, 8, 64):
            half = 2 ** (width - 1)
            for point in (-64, 0, 64):
                step = Fraction(1, 2) ** point
                wrap, stop = Form(width, point), Form(width, point, "half", "stop")
                self.assertEqual(wrap.kept(as_pair(half * step)), (-half, 2 * half))
                self.assertEqual(stop.kept(as_pair(half * step)), (half - 1, 1))
                self.assertEqual(wrap.kept(as_pair((-half - 1) * step)), (half - 1, -2 * half))
                self.assertEqual(stop.kept(as_pair((-half - 1) * step)), (-half, -1))

    def test_far_beyond(self):
        far = 10 ** 399
        for width in (2, 8, 64):
            half = 2 ** (width - 1)
            for sign in (1, -1):
                word, went = Form(width).kept((sign * far, 1))
                self.assertTrue(-half <= word < half)
                self.assertEqual(word + went, sign * far)
                self.assertEqual(went % (2 * half), 0)
            stop = Form(width, 0, "half", "stop")
            self.assertEqual(stop.kept((far, 1)), (half - 1, far - half + 1))
            self.assertEqual(stop.kept((-far, 1)), (-half, -far + half))

    def test_rounding_leads_over_an_end(self):
        for manner, told in [("half", (-8, 16)), ("even", (-8, 16)), ("far", (-8, 16)), ("up", (-8, 16)),
                             ("out", (-8, 16)), ("down", (7, 0)), ("in", (7, 0))]:
            self.assertEqual(Form(4, 0, manner).kept((15, 2)), told, manner)
        for manner, told in [("half", (-8, 0)), ("even", (-8, 0)), ("far", (-8, -1)), ("up", (-8, 0)),
                             ("out", (-8, -1)), ("down", (-8, -1)), ("in", (-8, 0))]:
            self.assertEqual(Form(4, 0, manner, "stop").kept((-17, 2)), told, manner)

    def test_near_nought(self):
        tiny = Fraction(1, 10 ** 300)
        told = {manner: (Form(8, 0, manner).kept(as_pair(tiny)), Form(8, 0, manner).kept(as_pair(-tiny)))
                for manner in MANNERS}
        nought, one, less = (0, 0), (1, 0), (-1, 0)
        self.assertEqual(told, {"down": (nought, less), "up": (one, nought), "in": (nought, nought),
                                "out": (one, less), "half": (nought, nought), "even": (nought, nought),
                                "far": (nought, nought)})

    def test_without_a_width(self):
        for point, manner, ends in itertools.product(POINTS, MANNERS, ENDS):
            form = Form(None, point, manner, ends)
            for value in (Fraction(0), Fraction(7, 3), Fraction(-5, 2), Fraction(10 ** 399), Fraction(-10 ** 399, 7)):
                n = rounded(as_pair(value * Fraction(2) ** point), manner)
                self.assertEqual(form.kept(value=as_pair(value)), (n, 0))

    def test_within_the_slack(self):
        for form in all_forms():
            for value in (Fraction(1, 3), Fraction(-1, 3), Fraction(5, 2 ** 66), Fraction(-7 * 2 ** 63)):
                word, went = form.kept(as_pair(value))
                off = abs(value * Fraction(2) ** form.point - (word + went))
                self.assertLessEqual(off, as_number(form.slack()))

    def test_kinds(self):
        told = Form(4, 1).kept((9, 4))
        self.assertIs(type(told), tuple)
        self.assertEqual(told, (5, 0))


class BitsTest(unittest.TestCase):
    def test_examples(self):
        self.assertEqual(Form(4).bits(5), "0101")
        self.assertEqual(Form(4).bits(-3), "1101")
        self.assertEqual(Form(4, 9, "in", "stop").bits(word=0), "0000")
        self.assertEqual(Form(4).word_of("0101"), 5)
        self.assertEqual(Form(4).word_of(bits="1101"), -3)

    def test_both_ends(self):
        for width in (2, 3, 63, 64):
            form = Form(width)
            self.assertEqual(form.bits(form.least()), "1" + "0" * (width - 1))
            self.assertEqual(form.bits(form.greatest()), "0" + "1" * (width - 1))
            self.assertEqual(form.bits(-1), "1" * width)
            self.assertEqual(form.bits(0), "0" * width)

    def test_there_and_back(self):
        for width in range(2, 65):
            form = Form(width, 0, "half", "stop")
            words = range(form.least(), form.greatest() + 1) if width < 9 else words_near_the_ends(form)
            for word in words:
                self.assertEqual(form.word_of(form.bits(word)), word)
                self.assertEqual(int(form.bits(word), 2), word % 2 ** width)

    def test_every_text_of_a_small_form(self):
        form = Form(3)
        texts = ["".join(signs) for signs in itertools.product("01", repeat=3)]
        self.assertEqual([form.word_of(text) for text in texts], [0, 1, 2, 3, -4, -3, -2, -1])

    def test_bits_of_no_word(self):
        for form in (Form(2), Form(4, 3, "in", "stop"), Form(64)):
            for thing in no_words(form):
                self.assertEqual(refusal(self, Unfit, form.bits, thing).at, 0)
        for thing in (0, 1, -1, 5, 10 ** 99, *no_words(Form())):
            self.assertEqual(refusal(self, Unfit, Form().bits, thing).at, 0)
            self.assertEqual(refusal(self, Unfit, Form(ends="stop").bits, word=thing).at, 0)

    def test_no_bits(self):
        for thing in ["", "0", "010", "01010", "0" * 8, "0102", "010 ", " 101", "01O1", "-101", "+101", "0b11",
                      "1_01", "010\n", "01/1", "\u0660\u0661\u0660\u0661", "\uff10\uff11\uff10\uff11", 101, 5,
                      b"0101", ["0", "1", "0", "1"], ("0", "1", "0", "1"), [0, 1, 0, 1], *other_kinds()]:
            self.assertEqual(refusal(self, NoText, Form(4).word_of, thing).line, 0, thing)
            self.assertEqual(refusal(self, NoText, Form(4).word_of, bits=thing).line, 0)

    def test_a_sign_too_long_or_too_short(self):
        for width in (2, 8, 64):
            for many in (width - 1, width + 1):
                for sign in "01":
                    self.assertEqual(refusal(self, NoText, Form(width).word_of, sign * many).line, 0)

    def test_no_texts_without_a_width(self):
        for thing in ["", "0", "1", "01", "0" * 64, "free", None, 0, *other_kinds()]:
            for ends in ENDS:
                self.assertEqual(refusal(self, NoText, Form(ends=ends).word_of, thing).line, 0)


class AddedTest(unittest.TestCase):
    ROWS = [[], [7], [-8], [7, 1], [7, 7, -8], [-8, -1, 7], [-8, 7, 7], [1, 2, 3, -4, 5], [7, 7, 7, 7, -8, -8], [0, 0]]

    def test_none_and_one(self):
        for form in all_forms():
            self.assertEqual(form.added([]), 0)
            for word in words_near_the_ends(form):
                self.assertEqual(form.added([word]), word)

    def test_wrapping_in_any_order(self):
        for point in (-3, 0, 5):
            form = Form(4, point)
            for row in self.ROWS:
                whole = as_pair(sum(row) * Fraction(1, 2) ** point)
                for order in set(itertools.permutations(row)):
                    self.assertEqual(form.added(list(order)), form.kept(whole)[0], order)

    def test_stopping_one_behind_the_other(self):
        form = Form(4, 2, "up", "stop")
        for row in self.ROWS:
            total = 0
            for word in row:
                total = max(-8, min(7, total + word))
            self.assertEqual(form.added(row), total, row)
        self.assertEqual(form.added([7, 7, -8]), -1)
        self.assertEqual(form.added([-8, 7, 7]), 6)
        self.assertEqual(form.added([-8, -8, 7]), -1)

    def test_without_a_width(self):
        for ends in ENDS:
            self.assertEqual(Form(None, 3, "in", ends).added([10 ** 399, 5, -10 ** 399]), 5)

    def test_many_words(self):
        words = [127] * 200
        self.assertEqual(Form(8).added(words), (127 * 200 + 128) % 256 - 128)
        self.assertEqual(Form(8, 0, "half", "stop").added(words=words), 127)
        self.assertEqual(Form(64).added([2 ** 63 - 1, 1]), -2 ** 63)

    def test_the_first_that_is_no_word(self):
        for form in (Form(4), Form(4, 1, "down", "stop"), Form(), Form(None, 2, "far", "stop")):
            for thing in no_words(form):
                for at in range(4):
                    words = [7, -8, 1, 5]
                    words[at] = thing
                    self.assertEqual(refusal(self, Unfit, form.added, words).at, at)
                    self.assertEqual(refusal(self, Unfit, form.added, words=[*words, thing, "x"]).at, at)

    def test_the_list_stays(self):
        words, wrong = [7, 7, -8], [7, 7, 8, None]
        for ends in ENDS:
            Form(4, 0, "half", ends).added(words)
            refusal(self, Unfit, Form(4, 0, "half", ends).added, wrong)
        self.assertEqual((words, wrong), ([7, 7, -8], [7, 7, 8, None]))


class TextsTest(unittest.TestCase):
    def test_alike(self):
        for parts in itertools.product(WIDTHS, POINTS, MANNERS, ENDS):
            self.assertTrue(Form(*parts) == Form(*parts))
            self.assertFalse(Form(*parts) != Form(*parts))
        self.assertIs(Form(8) == Form(8, 0, "half", "wrap"), True)

    def test_one_part_differs(self):
        form = Form(**GOOD)
        for part, other in [("width", 9), ("width", None), ("point", 5), ("point", -4), ("manner", "half"),
                            ("manner", "far"), ("ends", "wrap")]:
            differs = Form(**{**GOOD, part: other})
            self.assertIs(form == differs, False, part)
            self.assertIs(differs == form, False, part)
            self.assertIs(form != differs, True, part)

    def test_no_form(self):
        class Alike:
            def __init__(self):
                self.width, self.point, self.manner, self.ends = 8, 4, "even", "stop"

        for thing in ["8.4 even stop", (8, 4, "even", "stop"), Alike(), 8, *other_kinds()]:
            self.assertIs(Form(**GOOD) == thing, False)
            self.assertIs(Form(**GOOD) != thing, True)

    def test_str(self):
        self.assertEqual(str(Form(8, 4, "half", "wrap")), "8.4 half wrap")
        self.assertEqual(str(Form(None, -2, "in", "stop")), "free.-2 in stop")
        for width, point, manner, ends in itertools.product(WIDTHS, POINTS, MANNERS, ENDS):
            shown = "free" if width is None else str(width)
            self.assertEqual(str(Form(width, point, manner, ends)), f"{shown}.{point} {manner} {ends}")

    def test_repr(self):
        self.assertEqual(repr(Form(8, 4, "half", "wrap")), "Form(8, 4, 'half', 'wrap')")
        self.assertEqual(repr(Form(None, -2, "in", "stop")), "Form(None, -2, 'in', 'stop')")
        for parts in itertools.product(WIDTHS, POINTS, MANNERS, ENDS):
            self.assertEqual(repr(Form(*parts)), "Form" + repr(parts))


if __name__ == "__main__":
    unittest.main()

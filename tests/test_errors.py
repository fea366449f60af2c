"""Point 4 and the interface of errors.py."""

import inspect
import unittest

from echobound import errors
from echobound.errors import EchoError

OF_A_TEXT = ("NoFraction", "NoMatrix", "NoSeries", "BadState", "NoWords", "NoState", "NoChoice", "NoLine")
OF_FIELDS = {
    "BadForm": ("part",),
    "Unfit": ("at",),
    "NotStill": ("paper",),
    "TooSlow": ("many",),
    "BadNet": ("part", "at"),
    "NoTurn": ("many",),
    "TooMany": ("many",),
    "NotFree": ("row",),
    "NoName": ("name",),
    "NoText": ("line",),
}
DEFAULTS = {("Unfit", "at"): 0, ("BadNet", "at"): None, ("NoText", "line"): 0}
THINGS = ["width", "", 0, 7, None, ("ring", [[(1, 1)]]), [1], ("loud", [[(10 ** 5000, 1)]], [(1, 1)])]


def class_of(name):
    return getattr(errors, name)


class ErrorsTest(unittest.TestCase):
    def test_there_are_eighteen(self):
        self.assertEqual(len(OF_A_TEXT) + len(OF_FIELDS), 18)

    def test_echo_error_is_an_arithmetic_error(self):
        self.assertEqual(EchoError.__bases__, (ArithmeticError,))

    def test_each_stands_straight_under_echo_error(self):
        for name in [*OF_A_TEXT, *OF_FIELDS]:
            self.assertEqual(class_of(name).__bases__, (EchoError,), name)
            self.assertTrue(issubclass(class_of(name), ArithmeticError), name)
            self.assertEqual(class_of(name).__module__, "echobound.errors")

    def test_none_stands_under_another(self):
        names = [*OF_A_TEXT, *OF_FIELDS]
        for one in names:
            for other in names:
                self.assertEqual(issubclass(class_of(one), class_of(other)), one == other, (one, other))

    def test_made_of_a_text_or_of_nothing(self):
        for name in ["EchoError", *OF_A_TEXT]:
            self.assertEqual(str(class_of(name)("why")), "why")
            self.assertEqual(str(class_of(name)()), "")

    def test_fields_by_place(self):
        for name, fields in OF_FIELDS.items():
            for thing in THINGS:
                if name != "NotStill" and isinstance(thing, tuple):
                    continue
                made = class_of(name)(*[thing] * len(fields))
                for field in fields:
                    self.assertIs(getattr(made, field), thing)

    def test_fields_by_name(self):
        for name, fields in OF_FIELDS.items():
            made = class_of(name)(**{field: field + "!" for field in fields})
            for field in fields:
                self.assertEqual(getattr(made, field), field + "!")

    def test_two_fields_in_their_order(self):
        made = errors.BadNet("rows", 3)
        self.assertEqual((made.part, made.at), ("rows", 3))
        made = errors.BadNet(at=4, part="holds")
        self.assertEqual((made.part, made.at), ("holds", 4))

    def test_fields_left_out(self):
        self.assertEqual(errors.Unfit().at, 0)
        self.assertIsNone(errors.BadNet("out").at)
        self.assertEqual(errors.NoText().line, 0)

    def test_names_and_defaults_of_the_fields(self):
        for name, fields in OF_FIELDS.items():
            parameters = inspect.signature(class_of(name)).parameters
            self.assertEqual(tuple(parameters), fields)
            for field in fields:
                default = DEFAULTS.get((name, field), inspect.Parameter.empty)
                self.assertEqual(parameters[field].default, default, (name, field))

    def test_each_is_caught_as_echo_error_and_by_its_name(self):
        for name in OF_A_TEXT:
            with self.assertRaises(class_of(name)):
                raise class_of(name)()
            with self.assertRaises(ArithmeticError):
                raise class_of(name)("text")
        for name in OF_FIELDS:
            with self.assertRaises(EchoError):
                raise class_of(name)("thing")


if __name__ == "__main__":
    unittest.main()

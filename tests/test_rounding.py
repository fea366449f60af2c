"""Point 6: the seven manners."""

import inspect
import math
import unittest
from fractions import Fraction

from echobound import rounding
from echobound.errors import BadForm
from echobound.rounding import rounded
from tests.helper import MANNERS, as_pair, other_kinds, refusal


def nearer(value, tie):
    """The whole number nearest to a value; of two as near, the one that tie chooses."""
    low, high = math.floor(value), math.ceil(value)
    if value - low == high - value:
        return tie(low, high)
    return low if value - low < high - value else high


EXPECTED = {
    "down": math.floor,
    "up": math.ceil,
    "in": lambda value: min(math.floor(value), math.ceil(value), key=abs),
    "out": lambda value: max(math.floor(value), math.ceil(value), key=abs),
    "half": lambda value: nearer(value, max),
    "even": lambda value: nearer(value, lambda low, high: low if low % 2 == 0 else high),
    "far": lambda value: nearer(value, lambda low, high: max(low, high, key=abs)),
}

# value: what down, up, in, out, half, even, far tell, in this order
BY_HAND = {
    (5, 2): (2, 3, 2, 3, 3, 2, 3),
    (3, 2): (1, 2, 1, 2, 2, 2, 2),
    (1, 2): (0, 1, 0, 1, 1, 0, 1),
    (-1, 2): (-1, 0, 0, -1, 0, 0, -1),
    (-3, 2): (-2, -1, -1, -2, -1, -2, -2),
    (-5, 2): (-3, -2, -2, -3, -2, -2, -3),
    (9, 4): (2, 3, 2, 3, 2, 2, 2),
    (11, 4): (2, 3, 2, 3, 3, 3, 3),
    (-9, 4): (-3, -2, -2, -3, -2, -2, -2),
    (-11, 4): (-3, -2, -2, -3, -3, -3, -3),
    (0, 1): (0, 0, 0, 0, 0, 0, 0),
    (4, 1): (4, 4, 4, 4, 4, 4, 4),
    (-3, 1): (-3, -3, -3, -3, -3, -3, -3),
}


def values():
    """Whole numbers, halves and what lies just beside both, above and below 0."""
    near = [Fraction(0), Fraction(1, 10 ** 60), Fraction(-1, 10 ** 60), Fraction(1, 7), Fraction(-1, 7)]
    bases = [Fraction(n, 2) for n in range(-13, 14)] + [Fraction(10 ** 90 + 1, 2), Fraction(-10 ** 90 - 1, 2)]
    return [base + off for base in bases for off in near]


class RoundedTest(unittest.TestCase):
    def test_by_hand(self):
        for value, told in BY_HAND.items():
            for manner, number in zip(MANNERS, told):
                self.assertEqual(rounded(value, manner), number, (value, manner))

    def test_each_manner(self):
        for manner in MANNERS:
            for value in values():
                told = rounded(as_pair(value), manner)
                self.assertEqual(told, EXPECTED[manner](value), (value, manner))
                self.assertIs(type(told), int)

    def test_whole_numbers_stay(self):
        for manner in MANNERS:
            for whole in [*range(-9, 10), 10 ** 399, -10 ** 399]:
                self.assertEqual(rounded((whole, 1), manner), whole)

    def test_manner_left_out_is_half(self):
        for value in values():
            self.assertEqual(rounded(as_pair(value)), rounded(as_pair(value), "half"))
        self.assertEqual(rounded((-5, 2)), -2)

    def test_by_name(self):
        self.assertEqual(rounded(manner="far", value=(-5, 2)), -3)
        self.assertEqual(rounded(value=(5, 2)), 3)
        self.assertEqual(rounded((5, 2), manner="even"), 2)

    def test_other_manners(self):
        for manner in ["", "Half", "half ", " in", "near", "wrap", "downup", "d", "o", 0, 1, -1, *other_kinds(),
                       ["half"], ("half",), {"half": 1}, b"half"]:
            self.assertEqual(refusal(self, BadForm, rounded, (5, 2), manner).part, "manner")
            self.assertEqual(refusal(self, BadForm, rounded, (5, 1), manner=manner).part, "manner")

    def test_names_and_arguments(self):
        self.assertEqual(str(inspect.signature(rounded)), "(value, manner='half')")
        self.assertEqual(rounding.rounded.__module__, "echobound.rounding")


if __name__ == "__main__":
    unittest.main()

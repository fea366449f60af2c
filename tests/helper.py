"""What several test files share: things of other kinds, and fractions by another way."""

from fractions import Fraction

from echobound.errors import EchoError

MANNERS = ("down", "up", "in", "out", "half", "even", "far")


class Stranger:
    """Says yes to every comparison, so that nothing may be told by == alone."""

    def __eq__(self, other):
        return True

    def __hash__(self):
        return hash("half")


def other_kinds():
    """Things that are neither whole numbers nor texts."""
    return [True, False, None, (), (1,), (1, 1), (1, 2, 3), [], [1], [1, 1], {}, {1: 1}, {1}, b"1", Stranger()]


def as_pair(number):
    number = Fraction(number)
    return (number.numerator, number.denominator)


def as_number(pair):
    return Fraction(pair[0], pair[1])


def refusal(test, kind, call, *given, **named):
    """The error with which a call is refused: of just this class, straight under EchoError."""
    with test.assertRaises(EchoError) as caught:
        call(*given, **named)
    test.assertIs(type(caught.exception), kind, (given, named))
    test.assertEqual(kind.__bases__, (EchoError,))
    return caught.exception

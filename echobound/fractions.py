"""Whole numbers and fractions: tuples (top, bottom) in lowest terms, bottom from 1 on."""

from echobound.errors import NoFraction

GREATEST_POWER = 400
NOUGHT = (0, 1)
ONE = (1, 1)


def is_whole(thing):
    # Python counts True and False among its integers; the document does not.
    return isinstance(thing, int) and not isinstance(thing, bool)


def is_fraction(thing):
    if not isinstance(thing, tuple) or len(thing) != 2:
        return False
    top, bottom = thing
    if not is_whole(top) or not is_whole(bottom) or bottom < 1:
        return False
    return shared_divisor(top, bottom) == 1


def shared_divisor(top, bottom):
    """The greatest number that divides both, for a bottom from 1 on."""
    one = abs(top)
    other = bottom
    while other:
        one, other = other, one % other
    return one


def lowest(top, bottom):
    """The fraction of two whole numbers, for a bottom that is not 0."""
    if bottom < 0:
        top = -top
        bottom = -bottom
    shared = shared_divisor(top, bottom)
    return (top // shared, bottom // shared)


def fraction(top, bottom=1):
    if not is_whole(top) or not is_whole(bottom) or bottom == 0:
        raise NoFraction("a fraction is made of two whole numbers, the second not 0")
    return lowest(top, bottom)


def plus(one, other):
    return lowest(one[0] * other[1] + other[0] * one[1], one[1] * other[1])


def minus(one, other):
    return lowest(one[0] * other[1] - other[0] * one[1], one[1] * other[1])


def times(one, other):
    return lowest(one[0] * other[0], one[1] * other[1])


def divided(one, other):
    if other[0] == 0:
        raise NoFraction("nothing is divided by 0")
    return lowest(one[0] * other[1], one[1] * other[0])


def size_of(one):
    return (abs(one[0]), one[1])


def two_to(many):
    if not is_whole(many) or abs(many) > GREATEST_POWER:
        raise NoFraction("two is taken to whole powers from -400 to 400")
    if many < 0:
        return (1, 1 << -many)
    return (1 << many, 1)


def under(one, other):
    return one[0] * other[1] < other[0] * one[1]

"""Ladders: a bottom stepped down to rungs, and raised from them again."""

from echobound.errors import NoSeries
from echobound.fractions import NOUGHT, ONE, divided, lowest, minus, plus, shared_divisor, size_of, times, under
from echobound.reckoning import cleared
from echobound.series import check_bottom, check_series

# With a common bottom of more bits than this, places that have little in common are faster taken one by one.
LONGEST_COMMON = 40000


def is_long(common):
    return common.bit_length() > LONGEST_COMMON


def stepped_down(places):
    """The places without the last one, its share taken out of the others."""
    last = places[-1]
    left = minus(ONE, times(last, last))
    return [divided(minus(one, times(last, other)), left) for one, other in zip(places[:-1], places[::-1])]


def ladder_by_fractions(places):
    """The ladder of a list that begins with 1."""
    rungs = []
    while len(places) > 1:
        if not under(size_of(places[-1]), ONE):
            return ("out", places, rungs)
        rungs = [places[-1], *rungs]
        places = stepped_down(places)
    return ("in", rungs)


def shortened(numbers):
    """Whole numbers, the first not 0, over the one of greatest size that divides them all; the first above 0."""
    shared = abs(numbers[0])
    for number in numbers:
        shared = shared_divisor(number, shared)
    if numbers[0] < 0:
        shared = -shared
    return [number // shared for number in numbers]


def numbers_stepped_down(numbers):
    """Like stepped_down, of places that are whole numbers over the first one."""
    first = numbers[0]
    last = numbers[-1]
    return shortened([first * one - last * other for one, other in zip(numbers[:-1], numbers[::-1])])


def ladder_by_numbers(numbers):
    """The ladder of whole numbers over the first one."""
    numbers = shortened(numbers)
    rungs = []
    while len(numbers) > 1:
        if abs(numbers[-1]) >= numbers[0]:
            return ("out", [lowest(number, numbers[0]) for number in numbers], rungs)
        rungs = [lowest(numbers[-1], numbers[0]), *rungs]
        numbers = numbers_stepped_down(numbers)
    return ("in", rungs)


def ladder(bottom):
    check_bottom(bottom)
    numbers, common = cleared(bottom)
    if is_long(common):
        return ladder_by_fractions([divided(place, bottom[0]) for place in bottom])
    return ladder_by_numbers(numbers)


def raised_by_fractions(places, ks):
    for k in ks:
        longer = [*places, NOUGHT]
        places = [plus(one, times(k, other)) for one, other in zip(longer, longer[::-1])]
    return places


def raised_by_numbers(numbers, common, ks):
    """The list raised from whole numbers over a common bottom."""
    for top, bottom in ks:
        longer = [*numbers, 0]
        numbers = [bottom * one + top * other for one, other in zip(longer, longer[::-1])]
        common = common * bottom
    return [lowest(number, common) for number in numbers]


def raised(rest, ks):
    check_series(rest)
    check_series(ks)
    if not rest:
        raise NoSeries("what is raised has one fraction or more")
    numbers, common = cleared(rest)
    if is_long(common):
        return raised_by_fractions(list(rest), ks)
    return raised_by_numbers(numbers, common, ks)

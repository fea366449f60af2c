"""Words that are chosen for fractions: with a given sum, or as a pair that keeps a net still."""

from echobound.errors import NoChoice
from echobound.fractions import ONE, is_fraction, is_whole, minus, plus, size_of, under
from echobound.nets import is_place
from echobound.reckoning import cleared, is_fractions

MOST_VALUES = 40
FARTHEST_TOTAL = 100
GREATEST_POINT = 20
# Within the sides, on them and in the corners a still pair is never farther off than this many steps.
FARTHEST_STEPS = 2


def floor_of(value):
    return value[0] // value[1]


def check_values(values, total):
    if not is_fractions(values) or len(values) > MOST_VALUES or not is_whole(total):
        raise NoChoice("none to forty fractions and a whole number are fitted")
    more = total - sum([floor_of(value) for value in values])
    if abs(more) > FARTHEST_TOTAL or (more != 0 and not values):
        raise NoChoice("the total is too far from the fractions")


def by_greatest_rest(values):
    """The places of the fractions, those first that lie farthest above their greatest whole numbers."""
    tops, bottom = cleared(values)
    rests = [top % bottom for top in tops]
    return sorted(range(len(values)), key=lambda at: -rests[at])


def price_of_raising(value):
    """By how much it costs more to have the whole number above a fraction than the one that is not above it."""
    rest = minus(value, (floor_of(value), 1))
    return minus(ONE, plus(rest, rest))


def fitted(values, total):
    check_values(values, total)
    words = [floor_of(value) for value in values]
    more = total - sum(words)
    # Every word may go down from here for 1 each, and up for 1 each behind the first step, so any one may take it all.
    if more <= 0:
        return ([word + more if at == 0 else word for at, word in enumerate(words)], (-1, 1))
    order = by_greatest_rest(values)
    for at in order[:more]:
        words[at] += 1
    if more > len(words):
        words[0] += more - len(words)
        return (words, ONE)
    return (words, price_of_raising(values[order[more - 1]]))


def is_wanted(one, two):
    """Whether a pair of fractions lies within the sides between which pairs are still, or on them."""
    if not is_fraction(one) or not is_fraction(two) or under(ONE, size_of(two)):
        return False
    return not under(plus(ONE, two), size_of(one))


def is_still_pair(one, two, end):
    return abs(two) < end and abs(one) < end + two


def numbers_near(value, end):
    """The whole numbers that are close enough to a fraction times the end."""
    middle = value[0] * end // value[1]
    return list(range(middle - FARTHEST_STEPS, middle + FARTHEST_STEPS + 1))


def far_off(number, value, end, bottom):
    """How many steps a whole number is off a fraction, times both bottoms, of which the other one is handed in."""
    return abs(number * value[1] - value[0] * end) * bottom


def nearest_still(one, two, point):
    if not is_wanted(one, two) or not is_place(point, GREATEST_POINT + 1):
        raise NoChoice("a pair is wanted that lies between the sides, at a point from 0 to 20")
    end = 1 << point
    ranked = sorted([(max(far_off(b, one, end, two[1]), far_off(c, two, end, one[1])), b, c)
                     for b in numbers_near(one, end) for c in numbers_near(two, end)])
    first = [is_still_pair(b, c, end) for far, b, c in ranked].index(True)
    barred = sorted([(b, c, "one" if abs(c) < end else "two") for far, b, c in ranked[:first]])
    return (ranked[first][1], ranked[first][2], barred)

"""Series: lists of fractions with noughts behind their end, and what one over another responds."""

from echobound.errors import NoSeries
from echobound.fractions import NOUGHT, divided, is_whole, minus
from echobound.reckoning import is_fractions, sum_of_products

MOST_PLACES = 200


def is_bottom(thing):
    return is_fractions(thing) and len(thing) > 0 and thing[0] != NOUGHT


def check_series(thing):
    if not is_fractions(thing):
        raise NoSeries("a series is a list of fractions")


def check_bottom(thing):
    if not is_bottom(thing):
        raise NoSeries("a bottom is a series whose first fraction is not 0")


def place_of(series, at):
    return series[at] if at < len(series) else NOUGHT


def product_place(one, other, at):
    """The place at of the product of two series."""
    first = max(0, at - len(other) + 1)
    left = one[first:at + 1]
    right = [other[at - k] for k in range(first, first + len(left))]
    return sum_of_products(left, right)


def first_places(one, other, many):
    """The first so many places of the product of two series."""
    return [product_place(one, other, at) for at in range(many)]


def product_of(one, other):
    check_series(one)
    check_series(other)
    if not one or not other:
        return []
    return first_places(one, other, len(one) + len(other) - 1)


def quotient(top, bottom, many):
    """The first so many places of the row with which the bottom's product is the top."""
    row = []
    for at in range(many):
        past = [row[at - k] for k in range(1, min(at + 1, len(bottom)))]
        left = minus(place_of(top, at), sum_of_products(bottom[1:], past))
        row.append(divided(left, bottom[0]))
    return row


def response(top, bottom, many):
    check_series(top)
    check_bottom(bottom)
    if not is_whole(many) or not 0 <= many <= MOST_PLACES:
        raise NoSeries("a response is told for none to two hundred places")
    return quotient(top, bottom, many)


def answered(top, bottom, inputs):
    check_series(top)
    check_bottom(bottom)
    check_series(inputs)
    return quotient(first_places(top, inputs, len(inputs)), bottom, len(inputs))


def parted(top, bottom, other_top, other_bottom):
    check_series(top)
    check_bottom(bottom)
    check_series(other_top)
    check_bottom(other_bottom)
    # Both responses taken times both bottoms: as these begin with no 0, the first place that differs stays.
    for at in range(max(len(top) + len(other_bottom), len(other_top) + len(bottom))):
        if product_place(top, other_bottom, at) != product_place(other_top, bottom, at):
            return at
    return None

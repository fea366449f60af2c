"""The seven manners by which a fraction is rounded to a whole number."""

from echobound.errors import BadForm


def downward(top, bottom):
    return top // bottom


def upward(top, bottom):
    return -(-top // bottom)


def inward(top, bottom):
    return downward(top, bottom) if top > 0 else upward(top, bottom)


def outward(top, bottom):
    return upward(top, bottom) if top > 0 else downward(top, bottom)


def nearest_greater(top, bottom):
    return (2 * top + bottom) // (2 * bottom)


def nearest_even(top, bottom):
    near = nearest_greater(top, bottom)
    # Halfway, the other whole number that is as near is the one below.
    halfway = 2 * (near * bottom - top) == bottom
    return near - 1 if halfway and near & 1 else near


def nearest_far(top, bottom):
    # Below 0 the number farther from 0 is the lesser one: mirrored, it is the greater one.
    return nearest_greater(top, bottom) if top > 0 else -nearest_greater(-top, bottom)


MANNERS = {
    "down": downward,
    "up": upward,
    "in": inward,
    "out": outward,
    "half": nearest_greater,
    "even": nearest_even,
    "far": nearest_far,
}


def is_manner(thing):
    return isinstance(thing, str) and thing in MANNERS


def rounded(value, manner="half"):
    if not is_manner(manner):
        raise BadForm("manner")
    top, bottom = value
    rule = MANNERS[manner]
    return rule(top, bottom)

"""Boxes: stretches that no run of words from low to high ever leaves, found without looking at single states."""

from echobound.errors import NoState, NoWords, TooMany
from echobound.fractions import is_whole
from echobound.nets import enter_form, swept

MOST_ROUNDS = 40


def check_ends(net, low, high):
    form = enter_form(net)
    if not form.has(low) or not form.has(high) or low > high:
        raise NoWords("low and high are words of the form that comes in, low at most high")


def has_in_it(stretch, other):
    return stretch[0] <= other[0] and other[1] <= stretch[1]


def times_stretch(factor, stretch):
    ends = [factor * stretch[0], factor * stretch[1]]
    return (min(ends), max(ends))


def sum_stretch(row, stretches, points):
    """The stretch of a plus or a less row, both of its rows taken to the greater one of their points."""
    word, one, other = row
    point = max(points[one], points[other])
    low, high = [end << (point - points[one]) for end in stretches[one]]
    other_low, other_high = [end << (point - points[other]) for end in stretches[other]]
    if word == "plus":
        return (low + other_low, high + other_high)
    return (low - other_high, high - other_low)


def ends_kept(form, stretch, point):
    """What comes of both ends: (word, went) of each."""
    return [form.kept_at(end, point) for end in stretch]


def is_over(ends):
    """Whether one of the ends that were kept went over."""
    return ends[0][1] != 0 or ends[1][1] != 0


def all_words(form):
    return (form.least(), form.greatest())


def keep_stretch(form, stretch, point):
    ends = ends_kept(form, stretch, point)
    # Wrapping takes what lies between the ends anywhere; stopping, like rounding, keeps it between them.
    if is_over(ends) and form.ends == "wrap":
        return all_words(form)
    return (ends[0][0], ends[1][0])


def stretch_of_row(row, stretches, forms, points):
    kind = row[0]
    if kind == "times":
        return times_stretch(row[1], stretches[row[3]])
    if kind == "move":
        return stretches[row[2]]
    if kind == "keep":
        return keep_stretch(forms[row[1]], stretches[row[2]], points[row[2]])
    return sum_stretch(row, stretches, points)


def hull(one, other):
    """The least stretch that has both in it."""
    return (min(one[0], other[0]), max(one[1], other[1]))


def widened(net, held, stretches, rounds, many):
    """The holds' stretches behind a round in which the rows have these stretches."""
    forms = net.forms()
    told = []
    for hold, own in zip(net.holds(), held):
        form = forms[hold[0]]
        if has_in_it(own, stretches[hold[2]]):
            told.append(own)
        elif rounds < many:
            told.append(hull(own, stretches[hold[2]]))
        elif form.width is None:
            raise TooMany(many)
        else:
            told.append(all_words(form))
    return told


def box(net, low, high, many=20):
    check_ends(net, low, high)
    if not is_whole(many) or not 1 <= many <= MOST_ROUNDS:
        raise NoWords("holds get all words of their form from a round on that is one of the first forty")
    held = [(word, word) for word in net.start()]
    rounds = 1
    while True:
        stretches = swept(net, (low, high), held, stretch_of_row)
        wider = widened(net, held, stretches, rounds, many)
        if wider == held:
            return ("box", held, stretches, rounds)
        held = wider
        rounds += 1


def is_hold_stretch(form, word, thing):
    """Whether a thing is a stretch of words of the form that has this word in it."""
    if not isinstance(thing, tuple) or len(thing) != 2 or not form.has(thing[0]) or not form.has(thing[1]):
        return False
    return has_in_it(thing, (word, word))


def are_hold_stretches(net, thing):
    holds = net.holds()
    if not isinstance(thing, list) or len(thing) != len(holds):
        return False
    forms = net.forms()
    return all([is_hold_stretch(forms[hold[0]], hold[1], stretch) for hold, stretch in zip(holds, thing)])


def is_box(net, low, high, holds):
    check_ends(net, low, high)
    if not are_hold_stretches(net, holds):
        return False
    stretches = swept(net, (low, high), holds, stretch_of_row)
    return all([has_in_it(own, stretches[hold[2]]) for hold, own in zip(net.holds(), holds)])


def may_over(net, low, high, holds):
    if not is_box(net, low, high, holds):
        raise NoState("these stretches are no box of the net")
    forms = net.forms()
    points = net.points()
    rows = net.rows()
    stretches = swept(net, (low, high), holds, stretch_of_row)
    told = []
    for at in net.keeps():
        word, form, kept = rows[at]
        if is_over(ends_kept(forms[form], stretches[kept], points[kept])):
            told.append(at)
    return told

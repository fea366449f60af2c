"""Nets that are built: of tops and bottoms, of rungs, of other nets, and freed of their ends."""

from echobound.errors import BadNet, NoChoice, NoSeries
from echobound.forms import Form
from echobound.fractions import is_whole
from echobound.nets import Net, enter_form, is_keep_number, is_place, renumbered

NUMBER_END = 10 ** 18
MOST_TOPS = 4
MOST_BOTTOMS = 3
MOST_RUNGS = 6
GREATEST_POINT = 64


def is_numbers(thing, least, most):
    """Whether a thing is a list of so many whole numbers of at most eighteen figures."""
    if not isinstance(thing, list) or not least <= len(thing) <= most:
        return False
    return all([is_whole(number) and abs(number) < NUMBER_END for number in thing])


def check_numbers(thing, least, most):
    if not is_numbers(thing, least, most):
        raise NoSeries("a net is built of lists of a few whole numbers of at most eighteen figures")


def check_point_and_forms(point, enter, keep):
    if not is_place(point, GREATEST_POINT + 1):
        raise NoSeries("a net is built at a point from 0 to 64")
    if not isinstance(enter, Form) or not isinstance(keep, Form):
        raise NoSeries("a net is built with two forms")


def put(rows, *row):
    """Puts a row behind the others, and tells its number."""
    rows.append(row)
    return len(rows) - 1


def put_olds(rows, first, many):
    """Puts a row for each of so many holds, from the first one on, and tells their numbers."""
    return [put(rows, "old", first + at) for at in range(many)]


def put_sum(rows, one, other):
    """Puts a row that adds two, where there are two of them; None is none."""
    if one is None or other is None:
        return other if one is None else one
    return put(rows, "plus", one, other)


def put_shares(rows, factors, point, ats):
    """Puts rows that add up the factors, over 2 ** point, times the rows; tells None where there are none."""
    total = None
    for factor, at in zip(factors, ats):
        total = put_sum(rows, total, put(rows, "times", factor, point, at))
    return total


def other_signs(numbers):
    return [-number for number in numbers]


def direct(top, bottom, point, enter, keep):
    check_numbers(top, 1, MOST_TOPS)
    check_numbers(bottom, 0, MOST_BOTTOMS)
    check_point_and_forms(point, enter, keep)
    rows = []
    xs = [put(rows, "in"), *put_olds(rows, 0, len(top) - 1)]
    ys = put_olds(rows, len(top) - 1, len(bottom))
    total = put_shares(rows, top + other_signs(bottom), point, xs + ys)
    out = put(rows, "keep", 1, total)
    holds = [(0, 0, put(rows, "keep", 0, at)) for at in xs[:-1]]
    if ys:
        holds.append((1, 0, out))
    holds += [(1, 0, put(rows, "keep", 1, at)) for at in ys[:-1]]
    return Net([enter, keep], 0, rows, holds, out)


def transposed(top, bottom, point, enter, keep):
    check_numbers(top, 1, MOST_TOPS)
    check_numbers(bottom, 0, MOST_BOTTOMS)
    check_point_and_forms(point, enter, keep)
    rows = []
    heard = put(rows, "in")
    many = max(len(top) - 1, len(bottom))
    # Behind the last hold there is none to add.
    olds = [*put_olds(rows, 0, many), None]
    out = put(rows, "keep", 1, put_sum(rows, put_shares(rows, top[:1], point, [heard]), olds[0]))
    holds = []
    for at in range(1, many + 1):
        ahead = put_shares(rows, top[at:at + 1], point, [heard])
        back = put_shares(rows, other_signs(bottom[at - 1:at]), point, [out])
        total = put_sum(rows, put_sum(rows, ahead, back), olds[at])
        holds.append((1, 0, put(rows, "keep", 1, total)))
    return Net([enter, keep], 0, rows, holds, out)


def rungs(ks, point, enter, keep):
    check_numbers(ks, 0, MOST_RUNGS)
    check_point_and_forms(point, enter, keep)
    rows = []
    heard = put(rows, "in")
    many = len(ks)
    olds = put_olds(rows, 0, many)
    forward = [heard]
    for at in reversed(range(many)):
        share = put(rows, "times", ks[at], point, olds[at])
        forward = [put(rows, "keep", 1, put(rows, "less", forward[0], share)), *forward]
    out = forward[0] if ks else put(rows, "keep", 1, heard)
    holds = [(1, 0, out)] if ks else []
    for at in range(many - 1):
        share = put(rows, "times", ks[at], point, forward[at])
        holds.append((1, 0, put(rows, "keep", 1, put(rows, "plus", share, olds[at]))))
    return Net([enter, keep], 0, rows, holds, out)


def numbers_from(first, many):
    return list(range(first, first + many))


def rows_behind(one, other, first):
    """The other net's rows with the numbers that they have behind the one's, their first row's number being first."""
    forms = numbers_from(len(one.forms()), len(other.forms()))
    holds = numbers_from(len(one.holds()), len(other.holds()))
    numbers = numbers_from(first, len(other))
    return [renumbered(row, forms, numbers, holds) for row in other.rows()]


def both_holds(one, other, first):
    """The one net's holds, and behind them the other's, their first row's number being first."""
    more = len(one.forms())
    return one.holds() + [(form + more, word, row + first) for form, word, row in other.holds()]


def chain(one, other):
    between = len(one)
    kept = ("keep", len(one.forms()) + other.enters(), one.out())
    behind = [("move", 0, between) if row == ("in",) else row for row in rows_behind(one, other, between + 1)]
    holds = both_holds(one, other, between + 1)
    rows = one.rows() + [kept] + behind
    return Net(one.forms() + other.forms(), one.enters(), rows, holds, between + 1 + other.out())


def beside(one, other):
    if enter_form(one) != enter_form(other):
        raise BadNet("enters", None)
    rows = one.rows() + rows_behind(one, other, len(one))
    out = put(rows, "plus", one.out(), len(one) + other.out())
    return Net(one.forms() + other.forms(), one.enters(), rows, both_holds(one, other, len(one)), out)


def without_width(form):
    return Form(None, form.point, form.manner, form.ends)


def freed(net, rows):
    if not isinstance(rows, list) or not all([is_keep_number(net, row) for row in rows]):
        raise NoChoice("only keep rows are freed")
    forms = net.forms()
    changed = net.rows()
    free = {}
    for at in sorted(set(rows)):
        kind, form, kept = changed[at]
        if form not in free:
            free[form] = len(forms)
            forms.append(without_width(forms[form]))
        changed[at] = ("keep", free[form], kept)
    # A hold has the form of its row, freed or not.
    holds = [(changed[row][1], word, row) for number, word, row in net.holds()]
    return Net(forms, net.enters(), changed, holds, net.out())

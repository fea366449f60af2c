"""Nets: forms, rows that reckon one behind the other, and holds that remember from turn to turn."""

from echobound.errors import BadNet
from echobound.forms import Form
from echobound.fractions import is_whole

MOST_FORMS = 12
MOST_ROWS = 60
MOST_HOLDS = 6
FACTOR_END = 2 ** 63
GREATEST_SHIFT = 64
GREATEST_ROW_POINT = 200
ROW_LENGTHS = {"in": 1, "old": 2, "times": 4, "plus": 3, "less": 3, "move": 3, "keep": 3}


def is_place(thing, many):
    """Whether a thing is the number of one of so many things."""
    return is_whole(thing) and 0 <= thing < many


def is_factor(thing):
    return is_whole(thing) and abs(thing) < FACTOR_END


# Each rule below tells the point of a row, or None where its numbers are none it may have. Points are those of the
# rows ahead; given are the point of what comes in, the points of the holds' forms, and the points of all forms.


def in_point(row, points, given):
    return given[0]


def old_point(row, points, given):
    hold_points = given[1]
    return hold_points[row[1]] if is_place(row[1], len(hold_points)) else None


def times_point(row, points, given):
    word, factor, more, at = row
    if not is_factor(factor) or not is_place(more, GREATEST_SHIFT + 1) or not is_place(at, len(points)):
        return None
    return points[at] + more


def sum_point(row, points, given):
    word, one, other = row
    if not is_place(one, len(points)) or not is_place(other, len(points)):
        return None
    return max(points[one], points[other])


def move_point(row, points, given):
    word, many, at = row
    if not is_whole(many) or abs(many) > GREATEST_SHIFT or not is_place(at, len(points)):
        return None
    return points[at] - many


def keep_point(row, points, given):
    word, form, at = row
    form_points = given[2]
    if not is_place(form, len(form_points)) or not is_place(at, len(points)):
        return None
    return form_points[form]


POINT_RULES = {
    "in": in_point,
    "old": old_point,
    "times": times_point,
    "plus": sum_point,
    "less": sum_point,
    "move": move_point,
    "keep": keep_point,
}


def is_written_as_row(thing):
    """Whether a thing is a tuple of the word of a row and as many things behind it as the word asks for."""
    if not isinstance(thing, tuple) or not thing or not isinstance(thing[0], str):
        return False
    return thing[0] in ROW_LENGTHS and len(thing) == ROW_LENGTHS[thing[0]]


def row_point(row, points, given):
    """The point of a row behind those of the points, or None where it is no row there."""
    if not is_written_as_row(row):
        return None
    rule = POINT_RULES[row[0]]
    point = rule(row, points, given)
    return point if point is not None and abs(point) <= GREATEST_ROW_POINT else None


def check_length(thing, part, least, most):
    if not isinstance(thing, list) or not least <= len(thing) <= most:
        raise BadNet(part, None)


def check_forms(forms):
    check_length(forms, "forms", 1, MOST_FORMS)
    for at, form in enumerate(forms):
        if not isinstance(form, Form):
            raise BadNet("forms", at)


def is_hold(thing, forms):
    """Whether a thing is a hold, as far as its form and its first word tell."""
    if not isinstance(thing, tuple) or len(thing) != 3:
        return False
    return is_place(thing[0], len(forms)) and forms[thing[0]].has(thing[1])


def check_holds(holds, forms):
    check_length(holds, "holds", 0, MOST_HOLDS)
    for at, hold in enumerate(holds):
        if not is_hold(hold, forms):
            raise BadNet("holds", at)


def checked_points(rows, given):
    """The points of all rows."""
    check_length(rows, "rows", 1, MOST_ROWS)
    points = []
    for at, row in enumerate(rows):
        point = row_point(row, points, given)
        if point is None:
            raise BadNet("rows", at)
        points.append(point)
    return points


def check_links(holds, rows):
    for at, hold in enumerate(holds):
        if not is_place(hold[2], len(rows)) or rows[hold[2]][:2] != ("keep", hold[0]):
            raise BadNet("links", at)


class Net:
    """Forms, the number of the one whose words come in, rows, holds, and the number of the row that is told."""

    def __init__(self, forms, enters, rows, holds, out):
        check_forms(forms)
        if not is_place(enters, len(forms)):
            raise BadNet("enters", None)
        check_holds(holds, forms)
        form_points = [form.point for form in forms]
        hold_points = [form_points[hold[0]] for hold in holds]
        points = checked_points(rows, (form_points[enters], hold_points, form_points))
        check_links(holds, rows)
        if not is_place(out, len(rows)):
            raise BadNet("out", None)
        self.form_list = list(forms)
        self.enters_at = enters
        self.row_list = list(rows)
        self.hold_list = list(holds)
        self.out_at = out
        self.point_list = points

    def forms(self):
        return list(self.form_list)

    def enters(self):
        return self.enters_at

    def rows(self):
        return list(self.row_list)

    def holds(self):
        return list(self.hold_list)

    def out(self):
        return self.out_at

    def points(self):
        return list(self.point_list)

    def keeps(self):
        return [at for at, row in enumerate(self.row_list) if row[0] == "keep"]

    def start(self):
        return tuple([hold[1] for hold in self.hold_list])

    def __len__(self):
        return len(self.row_list)

    def __eq__(self, other):
        return (isinstance(other, Net) and self.form_list == other.form_list and self.enters_at == other.enters_at
                and self.row_list == other.row_list and self.hold_list == other.hold_list
                and self.out_at == other.out_at)

    def __str__(self):
        return f"{len(self.row_list)} rows, {len(self.hold_list)} holds"

    def __repr__(self):
        return f"Net({len(self.row_list)} rows, {len(self.hold_list)} holds)"


def enter_form(net):
    """The form whose words come in."""
    return net.forms()[net.enters()]


def is_row_number(net, thing):
    """Whether a thing is the number of a row of the net."""
    return is_place(thing, len(net))


def is_keep_number(net, thing):
    """Whether a thing is the number of a keep row of the net."""
    return is_row_number(net, thing) and net.rows()[thing][0] == "keep"


def swept(net, heard, held, rule):
    """What all rows have, one behind the other.

    A row ("in",) has what is heard, a row ("old", h) what is held at h, each other one what the rule tells of it,
    of what the rows ahead have, and of the net's forms and points.
    """
    forms = net.forms()
    points = net.points()
    done = []
    for row in net.rows():
        if row[0] == "in":
            done.append(heard)
        elif row[0] == "old":
            done.append(held[row[1]])
        else:
            done.append(rule(row, done, forms, points))
    return done


def renumbered(row, forms, rows, holds):
    """The row with the numbers that these lists have, at their places, for its forms, rows and holds."""
    word = row[0]
    if word == "old":
        return ("old", holds[row[1]])
    if word == "times":
        return ("times", row[1], row[2], rows[row[3]])
    if word == "move":
        return ("move", row[1], rows[row[2]])
    if word == "keep":
        return ("keep", forms[row[1]], rows[row[2]])
    if word == "in":
        return row
    return (word, rows[row[1]], rows[row[2]])

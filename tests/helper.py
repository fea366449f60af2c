"""What several test files share: things of other kinds, and fractions, matrices and nets by another way."""

import copy
import inspect
import random
from fractions import Fraction

from echobound.errors import EchoError
from echobound.forms import Form
from echobound.nets import Net

MANNERS = ("down", "up", "in", "out", "half", "even", "far")
LONG = 10 ** 399 + 7


class Stranger:
    """Says yes to every comparison, so that nothing may be told by == alone."""

    def __eq__(self, other):
        return True

    def __hash__(self):
        return hash("half")


def other_kinds():
    """Things that are neither whole numbers nor texts."""
    return [True, False, None, (), (1,), (1, 1), (1, 2, 3), [], [1], [1, 1], {}, {1: 1}, {1}, b"1", Stranger()]


def no_fractions():
    """Things that are no fractions, pairs that are nearly so among them."""
    return [0, 1, -7, "", "1/2", True, False, None, (), (1,), (1, 2, 3), [], [1, 2], [(1, 2)], ((1, 2),), (2, 4),
            (0, 2), (5, 5), (1, 0), (0, 0), (1, -1), (-3, -4), (True, 1), (1, True), (False, 1), ("1", "2"), (None, 1),
            ([1], 2), ((1, 2), (1, 2)), {}, {1: 2}, {1, 2}, b"12", Fraction(1, 2), Stranger(), (Stranger(), 1)]


def no_lists(many):
    """Things that are no list of so many fractions."""
    half = (1, 2)
    wrong = [*no_fractions(), half, (half,) * many, "a" * many, [half] * (many + 1), [[half] * many]]
    if many:
        wrong += [[[half]] * many, [half] * (many - 1), list(range(many))]
        wrong += [[thing] + [half] * (many - 1) for thing in no_fractions()]
        wrong += [[half] * (many - 1) + [thing] for thing in no_fractions()]
    return [thing for thing in wrong if repr(thing) != repr([half] * many)]


def no_series():
    """Things that are no list of fractions, however many."""
    half = (1, 2)
    wrong = [*no_fractions(), *other_kinds(), half, (half,), (half, half), "ab", [[half]], [half, [half]]]
    wrong += [[thing] for thing in no_fractions()]
    wrong += [[half, half, thing] for thing in no_fractions()]
    return [thing for thing in wrong if repr(thing) not in ("[]", "[(1, 2)]")]


def no_bottoms():
    return [*no_series(), [], [(0, 1)], [(0, 1), (1, 2)], [(0, 1), (0, 1)]]


def no_matrices():
    """Things that are no matrices."""
    half = (1, 2)
    shapes = [(half,), ((half,),), ([half],), half, [half], [half, half], [[]], [[], []], [[half], []], [[], [half]],
              [[half], [half, half]], [[half, half], [half]], [[half, half], [half, half], [half]], [[half], half],
              [[half], None], [None], [None, [half]], [[half]] * 11, [[half] * 11], [[half] * 10] * 11,
              [[half] * 11] * 10, [(half,)], [[half], (half,)], [(half,), [half]], [[[half]]], ["ab"], [{}], [True],
              [0], "", "matrix", b"", {}, {1}, (), None, True, False, 0, 1, 10, -1, Stranger(), [Stranger()]]
    places = [[[thing]] for thing in no_fractions()]
    places += [[[half, half], [half, thing]] for thing in no_fractions()]
    places += [[[thing, half], [half, half]] for thing in no_fractions()]
    return shapes + places


def as_pair(number):
    number = Fraction(number)
    return (number.numerator, number.denominator)


def as_number(pair):
    return Fraction(pair[0], pair[1])


def as_pairs(numbers):
    return [as_pair(number) for number in numbers]


def as_numbers(pairs):
    return [as_number(pair) for pair in pairs]


def as_matrix(rows):
    return [as_pairs(row) for row in rows]


def as_rows(matrix):
    return [as_numbers(row) for row in matrix]


def unit_rows(many):
    return [[Fraction(int(row == column)) for column in range(many)] for row in range(many)]


def flipped(rows):
    return [list(column) for column in zip(*rows)]


def dotted(numbers, others):
    return sum((number * other for number, other in zip(numbers, others)), Fraction(0))


def multiplied(rows, others):
    return [[dotted(row, column) for column in flipped(others)] for row in rows]


def less(rows, others):
    return [[one - two for one, two in zip(row, other)] for row, other in zip(rows, others)]


def led_by(rows, numbers):
    return [dotted(row, numbers) for row in rows]


def squares_by(rows, numbers):
    """numbers' M numbers, for the matrix M of these rows."""
    return dotted(numbers, led_by(rows, numbers))


def rank_of(rows):
    rows = [[Fraction(number) for number in row] for row in rows]
    rank = 0
    for column in range(len(rows[0]) if rows else 0):
        lead = next((row for row in range(rank, len(rows)) if rows[row][column] != 0), None)
        if lead is None:
            continue
        rows[rank], rows[lead] = rows[lead], rows[rank]
        for row in range(rank + 1, len(rows)):
            by = rows[row][column] / rows[rank][column]
            rows[row] = [one - by * two for one, two in zip(rows[row], rows[rank])]
        rank += 1
    return rank


def inverse_of(rows):
    """The rows that lead back, by elimination with the unit beside."""
    many = len(rows)
    wide = [list(row) + one for row, one in zip(rows, unit_rows(many))]
    for at in range(many):
        lead = next(row for row in range(at, many) if wide[row][at] != 0)
        wide[at], wide[lead] = wide[lead], wide[at]
        wide[at] = [number / wide[at][at] for number in wide[at]]
        for row in range(many):
            if row != at:
                by = wide[row][at]
                wide[row] = [one - by * two for one, two in zip(wide[row], wide[at])]
    return [row[many:] for row in wide]


def chance(seed):
    """Numbers that look like chance, the same ones in each run."""
    return random.Random(seed)


def some_number(dice, figures=1):
    greatest = 10 ** figures - 1
    return Fraction(dice.randint(-greatest, greatest), dice.randint(1, greatest))


def some_numbers(dice, many, figures=1):
    return [some_number(dice, figures) for _ in range(many)]


def some_rows(dice, many, columns, figures=1):
    return [some_numbers(dice, columns, figures) for _ in range(many)]


def some_basis(dice, many):
    """Rows of whole numbers that have an inverse of whole numbers."""
    lower = [[dice.randint(-1, 1) if column < row else int(row == column) for column in range(many)]
             for row in range(many)]
    upper = [[dice.randint(-1, 1) if column > row else int(row == column) for column in range(many)]
             for row in range(many)]
    return [[Fraction(number) for number in row] for row in multiplied(lower, upper)]


def seen_in(basis, rows):
    return multiplied(multiplied(basis, rows), inverse_of(basis))


def lists_within(thing):
    """All lists in a thing, itself among them."""
    if not isinstance(thing, (list, tuple)):
        return []
    found = [thing] if isinstance(thing, list) else []
    for part in thing:
        found += lists_within(part)
    return found


def asked(test, call, *given, **named):
    """What a call tells: the same each time, in lists of the asker's own, with nothing changed that was handed in."""
    before = copy.deepcopy((given, named))
    first = call(*given, **named)
    told = copy.deepcopy(first)
    for part in lists_within(first):
        part.clear()
        part.append("spoiled")
    test.assertTrue((given, named) == before)
    second = call(*given, **named)
    test.assertTrue(second == told)
    test.assertIs(type(second), type(told))
    mine = lists_within(second)
    test.assertEqual(len({id(part) for part in mine}), len(mine))
    return second


def refusal(test, kind, call, *given, **named):
    """The error with which a call is refused: of just this class, straight under EchoError."""
    with test.assertRaises(EchoError) as caught:
        call(*given, **named)
    test.assertIs(type(caught.exception), kind, (given, named))
    test.assertEqual(kind.__bases__, (EchoError,))
    return caught.exception


def refused_at(test, kind, call, given, at, things):
    """Each of the things in the place at of what is handed in is refused so, by place and by name, and stays."""
    names = list(inspect.signature(call).parameters)
    for thing in things:
        wrong = [*given[:at], thing, *given[at + 1:]]
        before = copy.deepcopy(wrong)
        refusal(test, kind, call, *wrong)
        refusal(test, kind, call, **dict(zip(names, wrong)))
        test.assertEqual(wrong, before)


def check_interface(test, module, wanted):
    """The names of a module's interface, with their arguments, all defined in it."""
    for name, arguments in wanted.items():
        made = getattr(module, name)
        test.assertEqual(str(inspect.signature(made)), arguments)
        test.assertEqual(made.__module__, module.__name__)


def plain_rounded(value, manner):
    """A number rounded by a manner, as the document tells it."""
    low = value.numerator // value.denominator
    if value == low:
        return low
    high = low + 1
    toward, away = (low, high) if value > 0 else (high, low)
    if manner in ("down", "up", "in", "out"):
        return {"down": low, "up": high, "in": toward, "out": away}[manner]
    if value - low != high - value:
        return low if value - low < high - value else high
    return {"half": high, "even": low if low % 2 == 0 else high, "far": away}[manner]


def plain_kept(form, value):
    """The word as which a form keeps a value, and how far it went over."""
    n = plain_rounded(value * Fraction(2) ** form.point, form.manner)
    if form.width is None:
        return (n, 0)
    least, greatest = -2 ** (form.width - 1), 2 ** (form.width - 1) - 1
    if form.ends == "stop":
        word = max(least, min(greatest, n))
    else:
        word = (n - least) % 2 ** form.width + least
    return (word, n - word)


def plain_points(net):
    """The points of all rows, one behind the other."""
    forms, points = net.forms(), []
    for row in net.rows():
        if row[0] == "in":
            points.append(forms[net.enters()].point)
        elif row[0] == "old":
            points.append(forms[net.holds()[row[1]][0]].point)
        elif row[0] == "times":
            points.append(points[row[3]] + row[2])
        elif row[0] == "move":
            points.append(points[row[2]] - row[1])
        elif row[0] == "keep":
            points.append(forms[row[1]].point)
        else:
            points.append(max(points[row[1]], points[row[2]]))
    return points


def plain_values(net, word, held, keep):
    """The values of all rows where the word and the holds have these values; keep tells a keep row's value."""
    values = []
    for at, row in enumerate(net.rows()):
        if row[0] == "in":
            values.append(word)
        elif row[0] == "old":
            values.append(held[row[1]])
        elif row[0] == "times":
            values.append(row[1] * values[row[3]] / Fraction(2) ** row[2])
        elif row[0] == "move":
            values.append(values[row[2]] * Fraction(2) ** row[1])
        elif row[0] == "keep":
            values.append(keep(at, net.forms()[row[1]], values[row[2]]))
        else:
            other = values[row[2]]
            values.append(values[row[1]] + (other if row[0] == "plus" else -other))
    return values


def state_values(net, state):
    return [number / Fraction(2) ** net.forms()[hold[0]].point for number, hold in zip(state, net.holds())]


def numbers_from_values(net, values):
    return [value * Fraction(2) ** point for value, point in zip(values, plain_points(net))]


def plain_turn(net, state, word):
    """The numbers of all rows, the next state, and the keep rows that went over."""
    went = []

    def keep(at, form, value):
        kept, beyond = plain_kept(form, value)
        if beyond:
            went.append(at)
        return kept / Fraction(2) ** form.point

    heard = word / Fraction(2) ** net.forms()[net.enters()].point
    numbers = numbers_from_values(net, plain_values(net, heard, state_values(net, state), keep))
    assert all(number.denominator == 1 for number in numbers)
    numbers = [int(number) for number in numbers]
    return (numbers, tuple(numbers[hold[2]] for hold in net.holds()), went)


def plain_run(net, words, state=None):
    """For each word the numbers of all rows and the keep rows that went over."""
    state = net.start() if state is None else state
    told = []
    for word in words:
        numbers, state, went = plain_turn(net, state, word)
        told.append((numbers, went))
    return told


def twin_numbers(net, state, word, more=None):
    """The exact twin's numbers of all rows; more is a pair of a keep row and how much more its number is."""
    def keep(at, form, value):
        if more is not None and at == more[0]:
            return value + more[1] / Fraction(2) ** form.point
        return value

    heard = word / Fraction(2) ** net.forms()[net.enters()].point
    return numbers_from_values(net, plain_values(net, heard, state_values(net, state), keep))


def twin_run(net, words, state):
    """The exact twin's out values, from any numbers in the holds, with any numbers as words."""
    point = plain_points(net)[net.out()]
    told = []
    for word in words:
        numbers = twin_numbers(net, state, Fraction(word))
        told.append(numbers[net.out()] / Fraction(2) ** point)
        state = [numbers[hold[2]] for hold in net.holds()]
    return told


def some_form(dice, widths=(None, 2, 3, 4, 8, 16, 64), points=(-3, 0, 1, 2, 5)):
    return Form(dice.choice(widths), dice.choice(points), dice.choice(MANNERS), dice.choice(("wrap", "stop")))


def some_word(dice, form, size=100):
    """A word of the form, of no greater size, where the form has one."""
    if form.width is None:
        return dice.randint(-size, size)
    return dice.randint(max(form.least(), -size), min(form.greatest(), size))


def some_row(dice, forms, holds, many, factors, shift):
    """A row that may stand behind so many others."""
    kind = dice.choice(("in", "old", "times", "times", "plus", "plus", "less", "less", "move", "keep", "keep"))
    # Rather a late row than an early one, so that much of a net hangs together.
    at = max(dice.randrange(many), dice.randrange(many))
    if kind == "in" or (kind == "old" and not holds):
        return ("in",)
    return {"old": ("old", dice.randrange(max(holds, 1))),
            "times": ("times", dice.randint(-factors, factors), dice.randint(0, shift), at),
            "plus": ("plus", at, dice.randrange(many)), "less": ("less", at, dice.randrange(many)),
            "move": ("move", dice.randint(-2, 2), at), "keep": ("keep", dice.randrange(forms), at)}[kind]


def some_net(dice, forms, holds=1, many=8, factors=5, shift=3):
    """A net by these forms, with so many holds and many more rows, whose out row is any of the last ones."""
    rows = [("in",)] + [("old", hold) for hold in range(holds)]
    for _ in range(many):
        rows.append(some_row(dice, len(forms), holds, len(rows), factors, shift))
    links = []
    for hold in range(holds):
        form = dice.randrange(len(forms))
        links.append((form, some_word(dice, forms[form]), len(rows)))
        rows.append(("keep", form, holds + max(dice.randint(1, many), dice.randint(1, many))))
    return Net(forms, dice.randrange(len(forms)), rows, links, dice.randrange(holds + 1, len(rows)))


def some_nets(seed, many, holds=(0, 1, 2, 6), widths=(None, 2, 3, 4, 8, 16, 64), points=(-3, 0, 1, 2, 5), rows=14):
    """So many nets by chance, with up to four forms and up to so many rows beside in, old and the holds' rows."""
    dice = chance(seed)
    told = []
    for _ in range(many):
        forms = [some_form(dice, widths, points) for _ in range(dice.randint(1, 4))]
        told.append(some_net(dice, forms, dice.choice(holds), dice.randint(1, rows)))
    return told


def enter_of(net):
    """The form whose words come in."""
    return net.forms()[net.enters()]


def echo_net():
    """The document's example: the word and three quarters of what was told last, rounded."""
    return Net([Form(8)], 0, [("in",), ("old", 0), ("times", 3, 2, 1), ("plus", 0, 2), ("keep", 0, 3)], [(0, 0, 4)], 4)


def no_numbers(many):
    """Things that are no number of one of so many."""
    return [-1, many, many + 1, 10 ** 30, -many, "0", "", *other_kinds()]


def no_words(form):
    """Things that are no words of a form."""
    things = ["", "1", "0101", *other_kinds()]
    if form.width is not None:
        end = 2 ** (form.width - 1)
        things += [end, -end - 1, end + 1, 2 * end, 10 ** 399, -10 ** 399]
    return things


def no_states(net):
    """Things that are no state of a net."""
    start, forms = net.start(), net.forms()
    things = [start + (0,), list(start), "", "0", 0, None, True, {}, {0}, b"", Stranger(), (start,), [start],
              (Stranger(),) * (len(start) + 1)]
    things += [()] if start else [(0,), (None,)]
    for at, hold in enumerate(net.holds()):
        things += [start[:at] + start[at + 1:]]
        things += [start[:at] + (thing,) + start[at + 1:] for thing in no_words(forms[hold[0]])]
    return things


def counter(width=None, ends="wrap", first=0, point=0):
    """A net that adds up its words."""
    rows = [("in",), ("old", 0), ("plus", 0, 1), ("keep", 0, 2)]
    return Net([Form(width, point, "half", ends)], 0, rows, [(0, first, 3)], 3)


def some_words(dice, net, most=4):
    """A list of up to so many words of the net, no two alike."""
    form = enter_of(net)
    every = list(range(form.least(), form.greatest() + 1))
    return dice.sample(every, dice.randint(1, min(most, len(every))))


def no_word_lists(form):
    """Things that are no list of one to nine words of a form, no two alike."""
    told = [None, True, 0, 1, "", "ab", (), (0,), (0, -1), {}, {0}, {0: 0}, b"", Stranger(), [], [0, 0], [0, -1, 0],
            list(range(10)), list(range(-5, 5)), [[0]], [(0,)], [0] * 9]
    return told + [[thing] for thing in no_words(form)] + [[-1, 0, thing] for thing in no_words(form)]


def plain_value(net, numbers):
    """The out row's value where the rows have these numbers."""
    return numbers[net.out()] / Fraction(2) ** plain_points(net)[net.out()]

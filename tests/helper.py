"""What several test files share: things of other kinds, and fractions and matrices by another way."""

import copy
import inspect
import random
from fractions import Fraction

from echobound.errors import EchoError

MANNERS = ("down", "up", "in", "out", "half", "even", "far")
LONG = 10 ** 399 + 7


class Stranger:
    """Says yes to every comparison, so that nothing may be told by == alone."""

    def __eq__(self, other):
        return True

    def __hash__(self):
        return hash("half")


def other_kinds():
    """Things that are neither whole numbers nor texts."""
    return [True, False, None, (), (1,), (1, 1), (1, 2, 3), [], [1], [1, 1], {}, {1: 1}, {1}, b"1", Stranger()]


def no_fractions():
    """Things that are no fractions, pairs that are nearly so among them."""
    return [0, 1, -7, "", "1/2", True, False, None, (), (1,), (1, 2, 3), [], [1, 2], [(1, 2)], ((1, 2),), (2, 4),
            (0, 2), (5, 5), (1, 0), (0, 0), (1, -1), (-3, -4), (True, 1), (1, True), (False, 1), ("1", "2"), (None, 1),
            ([1], 2), ((1, 2), (1, 2)), {}, {1: 2}, {1, 2}, b"12", Fraction(1, 2), Stranger(), (Stranger(), 1)]


def no_lists(many):
    """Things that are no list of so many fractions."""
    half = (1, 2)
    wrong = [*no_fractions(), half, (half,) * many, "a" * many, [half] * (many + 1), [[half] * many]]
    if many:
        wrong += [[[half]] * many, [half] * (many - 1), list(range(many))]
        wrong += [[thing] + [half] * (many - 1) for thing in no_fractions()]
        wrong += [[half] * (many - 1) + [thing] for thing in no_fractions()]
    return [thing for thing in wrong if repr(thing) != repr([half] * many)]


def no_series():
    """Things that are no list of fractions, however many."""
    half = (1, 2)
    wrong = [*no_fractions(), *other_kinds(), half, (half,), (half, half), "ab", [[half]], [half, [half]]]
    wrong += [[thing] for thing in no_fractions()]
    wrong += [[half, half, thing] for thing in no_fractions()]
    return [thing for thing in wrong if repr(thing) not in ("[]", "[(1, 2)]")]


def no_bottoms():
    return [*no_series(), [], [(0, 1)], [(0, 1), (1, 2)], [(0, 1), (0, 1)]]


def no_matrices():
    """Things that are no matrices."""
    half = (1, 2)
    shapes = [(half,), ((half,),), ([half],), half, [half], [half, half], [[]], [[], []], [[half], []], [[], [half]],
              [[half], [half, half]], [[half, half], [half]], [[half, half], [half, half], [half]], [[half], half],
              [[half], None], [None], [None, [half]], [[half]] * 11, [[half] * 11], [[half] * 10] * 11,
              [[half] * 11] * 10, [(half,)], [[half], (half,)], [(half,), [half]], [[[half]]], ["ab"], [{}], [True],
              [0], "", "matrix", b"", {}, {1}, (), None, True, False, 0, 1, 10, -1, Stranger(), [Stranger()]]
    places = [[[thing]] for thing in no_fractions()]
    places += [[[half, half], [half, thing]] for thing in no_fractions()]
    places += [[[thing, half], [half, half]] for thing in no_fractions()]
    return shapes + places


def as_pair(number):
    number = Fraction(number)
    return (number.numerator, number.denominator)


def as_number(pair):
    return Fraction(pair[0], pair[1])


def as_pairs(numbers):
    return [as_pair(number) for number in numbers]


def as_numbers(pairs):
    return [as_number(pair) for pair in pairs]


def as_matrix(rows):
    return [as_pairs(row) for row in rows]


def as_rows(matrix):
    return [as_numbers(row) for row in matrix]


def unit_rows(many):
    return [[Fraction(int(row == column)) for column in range(many)] for row in range(many)]


def flipped(rows):
    return [list(column) for column in zip(*rows)]


def dotted(numbers, others):
    return sum((number * other for number, other in zip(numbers, others)), Fraction(0))


def multiplied(rows, others):
    return [[dotted(row, column) for column in flipped(others)] for row in rows]


def less(rows, others):
    return [[one - two for one, two in zip(row, other)] for row, other in zip(rows, others)]


def led_by(rows, numbers):
    return [dotted(row, numbers) for row in rows]


def squares_by(rows, numbers):
    """numbers' M numbers, for the matrix M of these rows."""
    return dotted(numbers, led_by(rows, numbers))


def rank_of(rows):
    rows = [[Fraction(number) for number in row] for row in rows]
    rank = 0
    for column in range(len(rows[0]) if rows else 0):
        lead = next((row for row in range(rank, len(rows)) if rows[row][column] != 0), None)
        if lead is None:
            continue
        rows[rank], rows[lead] = rows[lead], rows[rank]
        for row in range(rank + 1, len(rows)):
            by = rows[row][column] / rows[rank][column]
            rows[row] = [one - by * two for one, two in zip(rows[row], rows[rank])]
        rank += 1
    return rank


def inverse_of(rows):
    """The rows that lead back, by elimination with the unit beside."""
    many = len(rows)
    wide = [list(row) + one for row, one in zip(rows, unit_rows(many))]
    for at in range(many):
        lead = next(row for row in range(at, many) if wide[row][at] != 0)
        wide[at], wide[lead] = wide[lead], wide[at]
        wide[at] = [number / wide[at][at] for number in wide[at]]
        for row in range(many):
            if row != at:
                by = wide[row][at]
                wide[row] = [one - by * two for one, two in zip(wide[row], wide[at])]
    return [row[many:] for row in wide]


def chance(seed):
    """Numbers that look like chance, the same ones in each run."""
    return random.Random(seed)


def some_number(dice, figures=1):
    greatest = 10 ** figures - 1
    return Fraction(dice.randint(-greatest, greatest), dice.randint(1, greatest))


def some_numbers(dice, many, figures=1):
    return [some_number(dice, figures) for _ in range(many)]


def some_rows(dice, many, columns, figures=1):
    return [some_numbers(dice, columns, figures) for _ in range(many)]


def some_basis(dice, many):
    """Rows of whole numbers that have an inverse of whole numbers."""
    lower = [[dice.randint(-1, 1) if column < row else int(row == column) for column in range(many)]
             for row in range(many)]
    upper = [[dice.randint(-1, 1) if column > row else int(row == column) for column in range(many)]
             for row in range(many)]
    return [[Fraction(number) for number in row] for row in multiplied(lower, upper)]


def seen_in(basis, rows):
    return multiplied(multiplied(basis, rows), inverse_of(basis))


def lists_within(thing):
    """All lists in a thing, itself among them."""
    if not isinstance(thing, (list, tuple)):
        return []
    found = [thing] if isinstance(thing, list) else []
    for part in thing:
        found += lists_within(part)
    return found


def asked(test, call, *given, **named):
    """What a call tells: the same each time, in lists of the asker's own, with nothing changed that was handed in."""
    before = copy.deepcopy((given, named))
    first = call(*given, **named)
    told = copy.deepcopy(first)
    for part in lists_within(first):
        part.clear()
        part.append("spoiled")
    test.assertTrue((given, named) == before)
    second = call(*given, **named)
    test.assertTrue(second == told)
    test.assertIs(type(second), type(told))
    mine = lists_within(second)
    test.assertEqual(len({id(part) for part in mine}), len(mine))
    return second


def refusal(test, kind, call, *given, **named):
    """The error with which a call is refused: of just this class, straight under EchoError."""
    with test.assertRaises(EchoError) as caught:
        call(*given, **named)
    test.assertIs(type(caught.exception), kind, (given, named))
    test.assertEqual(kind.__bases__, (EchoError,))
    return caught.exception


def refused_at(test, kind, call, given, at, things):
    """Each of the things in the place at of what is handed in is refused so, by place and by name, and stays."""
    names = list(inspect.signature(call).parameters)
    for thing in things:
        wrong = [*given[:at], thing, *given[at + 1:]]
        before = copy.deepcopy(wrong)
        refusal(test, kind, call, *wrong)
        refusal(test, kind, call, **dict(zip(names, wrong)))
        test.assertEqual(wrong, before)


def check_interface(test, module, wanted):
    """The names of a module's interface, with their arguments, all defined in it."""
    for name, arguments in wanted.items():
        made = getattr(module, name)
        test.assertEqual(str(inspect.signature(made)), arguments)
        test.assertEqual(made.__module__, module.__name__)

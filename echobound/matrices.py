"""Matrices: lists of rows of fractions, none to ten of them."""

from echobound.errors import NoFraction, NoMatrix
from echobound.fractions import NOUGHT, ONE, is_fraction, is_whole, lowest, plus, times
from echobound.reckoning import cancelled, cleared, dot, is_fractions, solution, stepped_above

MOST_ROWS = 10


def is_row(thing):
    return is_fractions(thing) and 1 <= len(thing) <= MOST_ROWS


def is_matrix(thing):
    if not isinstance(thing, list) or len(thing) > MOST_ROWS:
        return False
    if not all([is_row(row) for row in thing]):
        return False
    return all([len(row) == len(thing[0]) for row in thing])


def shape_of(matrix):
    return (len(matrix), len(matrix[0]) if matrix else 0)


def turned_over(matrix):
    return [list(column) for column in zip(*matrix)]


def is_square(thing):
    return is_matrix(thing) and len(thing) == shape_of(thing)[1]


def is_symmetric(thing):
    return is_square(thing) and thing == turned_over(thing)


def is_list_of(thing, many):
    """Whether a thing is a list of so many fractions."""
    return is_fractions(thing) and len(thing) == many


def check_matrix(thing):
    if not is_matrix(thing):
        raise NoMatrix("a matrix is a list of none to ten rows, lists of one to ten fractions, all of one length")


def check_square(thing):
    if not is_square(thing):
        raise NoMatrix("a matrix is due that has as many rows as columns")


def check_symmetric(thing):
    if not is_symmetric(thing):
        raise NoMatrix("a matrix is due that is as it is mirrored")


def check_list(thing, many):
    if not is_list_of(thing, many):
        raise NoMatrix("a list is due of as many fractions as the matrix takes")


def shape(matrix):
    check_matrix(matrix)
    return shape_of(matrix)


def unit(many):
    if not is_whole(many) or not 0 <= many <= MOST_ROWS:
        raise NoMatrix("a matrix has none to ten rows")
    return [[ONE if row == column else NOUGHT for column in range(many)] for row in range(many)]


def mirrored(matrix):
    check_matrix(matrix)
    return turned_over(matrix)


def sum_of(one, other):
    check_matrix(one)
    check_matrix(other)
    if shape_of(one) != shape_of(other):
        raise NoMatrix("matrices that are added have the same shape")
    return [[plus(place, beside) for place, beside in zip(row, other_row)] for row, other_row in zip(one, other)]


def met(row, column):
    """The sum of the products of a row and a column, both cleared."""
    return lowest(dot(row[0], column[0]), row[1] * column[1])


def product(one, other):
    check_matrix(one)
    check_matrix(other)
    if shape_of(one)[1] != len(other):
        raise NoMatrix("the first matrix has as many columns as the second has rows")
    columns = [cleared(column) for column in turned_over(other)]
    rows = [cleared(row) for row in one]
    return [[met(left, right) for right in columns] for left in rows]


def scaled(matrix, one):
    check_matrix(matrix)
    if not is_fraction(one):
        raise NoFraction("a matrix is scaled by a fraction")
    return [[times(place, one) for place in row] for row in matrix]


def led(matrix, xs):
    check_matrix(matrix)
    check_list(xs, shape_of(matrix)[1])
    right = cleared(xs)
    return [met(cleared(row), right) for row in matrix]


def solved(matrix, right):
    check_square(matrix)
    check_list(right, len(matrix))
    return solution([[*row, wanted] for row, wanted in zip(matrix, right)])


def lower_place(stepped, row, column):
    # A symmetric matrix has the same determinants below the diagonal as above it, where the stepped rows have theirs.
    return lowest(stepped[column][row], stepped[column][column])


def pivots_of(stepped, bottoms):
    """The pivots of the matrix from whose rows, each taken times its bottom, the stepped ones came."""
    pivots = []
    last = 1
    for at, bottom in enumerate(bottoms):
        pivots.append(lowest(stepped[at][at], last * bottom))
        last = stepped[at][at]
    return pivots


def signs_of(matrix):
    rows = [cleared(row) for row in matrix]
    stepped, at = stepped_above([tops for tops, bottom in rows])
    many = len(matrix)
    if at < many:
        return ("not", cancelled(stepped, at, many))
    lower = [[lower_place(stepped, row, column) for column in range(many)] for row in range(many)]
    return ("above", lower, pivots_of(stepped, [bottom for tops, bottom in rows]))


def signs(matrix):
    check_symmetric(matrix)
    return signs_of(matrix)

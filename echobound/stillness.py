"""Whether a matrix's powers come to nothing, with a paper that shows it, and what follows from it."""

from echobound.errors import NoFraction, NoMatrix, NotStill, TooSlow
from echobound.fractions import NOUGHT, ONE, is_fraction, is_whole, lowest, minus, plus, times
from echobound.matrices import (check_list, check_square, check_symmetric, is_list_of, is_symmetric, signs_of,
                                turned_over, unit)
from echobound.reckoning import cleared, cleared_rows, dot, solution, stepped_above

GREATEST_MOST = 200


def upper_places(many):
    """The places of a symmetric matrix of so many rows that tell the others."""
    return [(row, column) for row in range(many) for column in range(row, many)]


def share(matrix, place, unknown):
    """How often X's place unknown, with the one across the diagonal, goes into the place of F' X F."""
    row, column = place
    one, other = unknown
    once = times(matrix[one][row], matrix[other][column])
    if one == other:
        return once
    return plus(once, times(matrix[other][row], matrix[one][column]))


def equation(matrix, place, places, wanted):
    """X less F' X F at this place, X's places being unknown, and what it has to be."""
    shares = [minus(ONE if place == unknown else NOUGHT, share(matrix, place, unknown)) for unknown in places]
    return [*shares, wanted[place[0]][place[1]]]


def symmetric_of(places, xs, many):
    """The symmetric matrix of so many rows with these fractions at these places."""
    told = {place: x for place, x in zip(places, xs)}
    return [[told[(min(row, column), max(row, column))] for column in range(many)] for row in range(many)]


def weighed_of(matrix, wanted):
    many = len(matrix)
    places = upper_places(many)
    word, xs = solution([equation(matrix, place, places, wanted) for place in places])
    return ("one" if word == "one" else "ring", symmetric_of(places, xs, many))


def weighed(matrix, wanted):
    check_square(matrix)
    check_symmetric(wanted)
    if len(wanted) != len(matrix):
        raise NoMatrix("both matrices have as many rows")
    return weighed_of(matrix, wanted)


def stillness_of(matrix):
    word, weights = weighed_of(matrix, unit(len(matrix)))
    if word == "ring":
        return ("ring", weights)
    told = signs_of(weights)
    if told[0] == "above":
        return ("still", weights)
    return ("loud", weights, told[1])


def stillness(matrix):
    check_square(matrix)
    return stillness_of(matrix)


def still_weights(matrix):
    """The matrix of the paper of a square matrix that is still; else it is refused with its paper."""
    paper = stillness_of(matrix)
    if paper[0] != "still":
        raise NotStill(paper)
    return paper[1]


def is_symmetric_of(thing, many):
    return is_symmetric(thing) and len(thing) == many


def leaves(matrix, weights, diagonal):
    """Whether weights less F' weights F has this whole number on its diagonal, and else noughts."""
    # All taken times the bottoms, so that no long number has to be brought to lowest terms.
    columns = [cleared(column) for column in turned_over(matrix)]
    rows, bottom = cleared_rows(weights)
    for at, (tops, under_tops) in enumerate(columns):
        through = [dot(row, tops) for row in rows]
        for other, (other_tops, under_others) in enumerate(columns):
            wanted = diagonal * bottom if at == other else 0
            if under_tops * under_others * (rows[other][at] - wanted) != dot(other_tops, through):
                return False
    return True


def is_above(weights):
    """Whether a symmetric matrix has a worth above 0 for each list that isn't all 0."""
    rows, at = stepped_above([cleared(row)[0] for row in weights])
    return at == len(rows)


def is_still_paper(matrix, weights):
    return is_symmetric_of(weights, len(matrix)) and leaves(matrix, weights, 1) and is_above(weights)


def is_all_nought(xs):
    return all([x == NOUGHT for x in xs])


def is_loud_paper(matrix, weights, xs):
    many = len(matrix)
    if not is_symmetric_of(weights, many) or not is_list_of(xs, many) or is_all_nought(xs):
        return False
    return leaves(matrix, weights, 1) and worth_over(weights, xs)[0] <= 0


def is_ring_paper(matrix, weights):
    if not is_symmetric_of(weights, len(matrix)) or all([is_all_nought(row) for row in weights]):
        return False
    return leaves(matrix, weights, 0)


def is_paper(matrix, paper):
    check_square(matrix)
    if not isinstance(paper, tuple) or not paper or not isinstance(paper[0], str):
        return False
    word = paper[0]
    if word == "still" and len(paper) == 2:
        return is_still_paper(matrix, paper[1])
    if word == "loud" and len(paper) == 3:
        return is_loud_paper(matrix, paper[1], paper[2])
    if word == "ring" and len(paper) == 2:
        return is_ring_paper(matrix, paper[1])
    return False


def worth_over(matrix, xs):
    """The worth as a top and a bottom above 0, not in lowest terms."""
    rows, bottom = cleared_rows(matrix)
    tops, under_tops = cleared(xs)
    return (dot(tops, [dot(row, tops) for row in rows]), bottom * under_tops * under_tops)


def worth_of(matrix, xs):
    top, bottom = worth_over(matrix, xs)
    return lowest(top, bottom)


def worth(matrix, xs):
    check_square(matrix)
    check_list(xs, len(matrix))
    return worth_of(matrix, xs)


def energy(matrix, column, row, through):
    check_square(matrix)
    check_list(column, len(matrix))
    check_list(row, len(matrix))
    if not is_fraction(through):
        raise NoFraction("what goes through is a fraction")
    still_weights(matrix)
    # The squares behind each column come to its worth by X, X less F' X F being row' row.
    squares = weighed_of(matrix, [[times(one, other) for other in row] for one in row])[1]
    return plus(times(through, through), worth_of(squares, column))


def multiplied(rows, columns):
    return [[dot(row, column) for column in columns] for row in rows]


def is_halved(rows, bottom):
    return all([2 * sum([abs(number) for number in row]) <= bottom for row in rows])


def halving(matrix, most=60):
    check_square(matrix)
    if not is_whole(most) or not 1 <= most <= GREATEST_MOST:
        raise NoMatrix("so many powers are looked at: one to two hundred")
    numbers, common = cleared_rows(matrix)
    columns = turned_over(numbers)
    rows = cleared_rows(unit(len(matrix)))[0]
    bottom = 1
    for many in range(1, most + 1):
        rows = multiplied(rows, columns)
        bottom = bottom * common
        if is_halved(rows, bottom):
            return many
    raise TooSlow(most)

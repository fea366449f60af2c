"""Fractions reckoned with as whole numbers: over one bottom, or at a point. Exact, and far faster than one by one."""

from echobound.fractions import NOUGHT, ONE, is_fraction, lowest, shared_divisor


def is_fractions(thing):
    """Whether a thing is a list of fractions."""
    return isinstance(thing, list) and all([is_fraction(one) for one in thing])


def common_bottom(pairs):
    """The least number from 1 on that every bottom divides."""
    common = 1
    for pair in pairs:
        if common % pair[1]:
            common = common // shared_divisor(common, pair[1]) * pair[1]
    return common


def cleared(pairs):
    """Whole numbers, one for each pair, and the bottom that they all stand over."""
    common = common_bottom(pairs)
    return ([top * (common // bottom) for top, bottom in pairs], common)


def cleared_rows(matrix):
    """Rows of whole numbers, and the bottom that all of them stand over."""
    common = common_bottom([pair for row in matrix for pair in row])
    return ([[top * (common // bottom) for top, bottom in row] for row in matrix], common)


def dot(numbers, others):
    """The sum of the products of whole numbers, place by place."""
    return sum([number * other for number, other in zip(numbers, others)])


def sum_of_products(xs, ys):
    """The sum of the products of fractions, place by place."""
    # A nought's partner is left out, as its bottom would only make the numbers longer.
    products = [(x[0] * y[0], x[1] * y[1]) for x, y in zip(xs, ys) if x[0] != 0 and y[0] != 0]
    tops, common = cleared(products)
    return lowest(sum(tops), common)


def below_cleared(rows, at, last):
    """The rows with noughts below place (at, at), last being the place (at - 1, at - 1), 1 where there is none.

    Each place that comes so is a determinant of places of the first rows (Bareiss), so the division by last
    leaves no rest, and the numbers stay as short as they can without fractions.
    """
    lead = rows[at]
    done = rows[:at + 1]
    for row in rows[at + 1:]:
        tail = [(lead[at] * row[k] - row[at] * lead[k]) // last for k in range(at + 1, len(row))]
        done.append([0] * (at + 1) + tail)
    return done


def row_that_leads(rows, at):
    """The number of the first row from at on that has no 0 in column at, or None."""
    for number in range(at, len(rows)):
        if rows[number][at] != 0:
            return number
    return None


def exchanged(rows, one, other):
    done = list(rows)
    done[one] = rows[other]
    done[other] = rows[one]
    return done


def stepped(rows):
    """Rows with noughts below the diagonal, and the first column that those ahead of it make up."""
    last = 1
    for at in range(len(rows)):
        leading = row_that_leads(rows, at)
        if leading is None:
            return (rows, at)
        rows = below_cleared(exchanged(rows, at, leading), at, last)
        last = rows[at][at]
    return (rows, len(rows))


def stepped_above(rows):
    """Like stepped, but without an exchange of rows, and ending at the first diagonal place that is not above 0."""
    last = 1
    for at in range(len(rows)):
        if rows[at][at] <= 0:
            return (rows, at)
        rows = below_cleared(rows, at, last)
        last = rows[at][at]
    return (rows, len(rows))


def made_up(rows, at):
    """The fractions with which the columns ahead of column at make it up, in the first rows of stepped ones."""
    if at == 0:
        return []
    # By Cramer's rule this is a bottom for all of them, so no division below leaves a rest.
    bottom = rows[at - 1][at - 1]
    tops = []
    for number in reversed(range(at)):
        row = rows[number]
        known = dot(row[number + 1:at], tops)
        tops = [(bottom * row[at] - known) // row[number], *tops]
    return [lowest(top, bottom) for top in tops]


def cancelled(rows, at, many):
    """A list of so many fractions, not all 0, that the first at rows of stepped ones lead to noughts."""
    made = [(-top, bottom) for top, bottom in made_up(rows, at)]
    return made + [ONE] + [NOUGHT] * (many - at - 1)


def solution(rows):
    """What the rows of fractions, each with its right side at its end, leave of as many unknowns as rows."""
    whole, at = stepped([cleared(row)[0] for row in rows])
    if at < len(rows):
        return ("none", cancelled(whole, at, len(rows)))
    return ("one", made_up(whole, at))


# From here on a number at a point is a tuple (number, point) that stands for number times 2 ** -point, in any terms.


def lowest_at(one):
    """The same at the least point there is; of 0 at the point 0."""
    number, point = one
    if number == 0:
        return (0, 0)
    noughts = (number & -number).bit_length() - 1
    return (number >> noughts, point - noughts)


def fraction_at(one):
    """The fraction that a number at a point stands for."""
    number, point = lowest_at(one)
    return (number, 1 << point) if point >= 0 else (number << -point, 1)


def sum_at(one, other):
    # A nought's point says nothing, and would only make the numbers longer.
    if one[0] == 0:
        return other
    if other[0] == 0:
        return one
    point = max(one[1], other[1])
    return ((one[0] << (point - one[1])) + (other[0] << (point - other[1])), point)


def less_at(one, other):
    return sum_at(one, (-other[0], other[1]))


def product_at(one, other):
    return (one[0] * other[0], one[1] + other[1])


def size_at(one):
    return (abs(one[0]), one[1])


def total_at(ones):
    total = (0, 0)
    for one in ones:
        total = sum_at(total, one)
    return total


def greatest_size_at(ones):
    """The greatest size among numbers at points, 0 where there are none."""
    greatest = (0, 0)
    for one in ones:
        if less_at(size_at(one), greatest)[0] > 0:
            greatest = size_at(one)
    return greatest


def pointed(pair):
    """A fraction whose bottom is a power of two, as a number at a point."""
    return (pair[0], pair[1].bit_length() - 1)


def numbers_at(pairs):
    """Whole numbers for fractions whose bottoms are powers of two, and the one point that they all stand at."""
    numbers, bottom = cleared(pairs)
    return (numbers, bottom.bit_length() - 1)

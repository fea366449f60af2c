"""Exact twins of nets, which neither round nor end: what they tell, and how far the net itself can part from them."""

from echobound.errors import NoChoice, NoSeries
from echobound.fractions import NOUGHT, is_whole
from echobound.machines import check_run, first_state
from echobound.matrices import turned_over
from echobound.nets import enter_form, is_keep_number, swept
from echobound.reckoning import (cleared_rows, dot, fraction_at, greatest_size_at, less_at, lowest_at, numbers_at,
                                 pointed, product_at, size_at, sum_at, total_at)
from echobound.stillness import halving, multiplied

MOST_GAIN = 60


def value_of_row(row, values, forms, points):
    """The twin's value of a row, a number at a point: a keep row has just what it keeps."""
    kind = row[0]
    if kind == "times":
        return product_at((row[1], row[2]), values[row[3]])
    if kind == "move":
        return product_at((1, -row[1]), values[row[2]])
    if kind == "keep":
        return values[row[2]]
    if kind == "plus":
        return sum_at(values[row[1]], values[row[2]])
    return less_at(values[row[1]], values[row[2]])


def twin_values(net, heard, held):
    """The twin's values of all rows at a turn, for those of the word and of the holds."""
    return swept(net, heard, held, value_of_row)


def hold_points(net):
    forms = net.forms()
    return [forms[hold[0]].point for hold in net.holds()]


def exact_run(net, words, state=None):
    state = first_state(net, state)
    check_run(net, words)
    point = enter_form(net).point
    held = [(word, at) for word, at in zip(state, hold_points(net))]
    told = []
    for word in words:
        values = twin_values(net, (word, point), held)
        held = [lowest_at(values[hold[2]]) for hold in net.holds()]
        told.append(fraction_at(values[net.out()]))
    return told


def slack_of(net, row):
    if not is_keep_number(net, row):
        raise NoChoice("only keep rows have a slack")
    word, form, at = net.rows()[row]
    points = net.points()
    return NOUGHT if points[at] <= points[row] else net.forms()[form].slack()


def number_in(net, values, row):
    """The number, itself a fraction, that a row of these values has."""
    return fraction_at(product_at(values[row], (1, -net.points()[row])))


def single_values(net):
    """The twin's values of all rows where one hold has the number 1 and all else is 0, for each hold."""
    points = hold_points(net)
    told = []
    for one, point in enumerate(points):
        held = [(1, point) if at == one else (0, 0) for at in range(len(points))]
        told.append(twin_values(net, (0, 0), held))
    return told


def matrices_of(net):
    holds = net.holds()
    by_holds = single_values(net)
    by_word = twin_values(net, (1, enter_form(net).point), [(0, 0)] * len(holds))
    matrix = [[number_in(net, values, hold[2]) for values in by_holds] for hold in holds]
    column = [number_in(net, by_word, hold[2]) for hold in holds]
    row = [number_in(net, values, net.out()) for values in by_holds]
    return (matrix, column, row, number_in(net, by_word, net.out()))


def values_off(net, off):
    """By how much the values of all rows are more where the number of the keep row off is one more."""
    def more_of_row(row, values, forms, points):
        return (1, points[off]) if len(values) == off else value_of_row(row, values, forms, points)

    return swept(net, (0, 0), [(0, 0)] * len(net.holds()), more_of_row)


def error_of(net, row):
    values = values_off(net, row)
    return (row, [number_in(net, values, hold[2]) for hold in net.holds()], number_in(net, values, net.out()))


def errors_of(net):
    return [error_of(net, row) for row in net.keeps()]


def led_on(rows, point, column, many):
    """A column of numbers at a point, and what rows of numbers at a point lead it to: so many in all."""
    told = [column]
    while len(told) < many:
        numbers, at = told[-1]
        told.append(([dot(row, numbers) for row in rows], at + point))
    return told


def whole_matrix(matrix):
    """Rows of whole numbers, and the point that they all stand at."""
    rows, bottom = cleared_rows(matrix)
    return (rows, bottom.bit_length() - 1)


def point_to_values(net):
    """The point of what turns numbers of the out row, for a word, into values of it, for a value of the word."""
    return net.points()[net.out()] - enter_form(net).point


def response_places(net, parts, many):
    """The first so many places of the response, numbers at points."""
    matrix, column, row, through = parts
    rows, point = whole_matrix(matrix)
    weights, row_point = numbers_at(row)
    told = [pointed(through)]
    for led_numbers, led_point in led_on(rows, point, numbers_at(column), many)[:many - 1]:
        told.append((dot(weights, led_numbers), row_point + led_point))
    return [product_at(one, (1, point_to_values(net))) for one in told]


def bottom_places(matrix):
    """The bottom of the transfer, numbers at points."""
    rows, point = whole_matrix(matrix)
    columns = turned_over(rows)
    numbers = [1]
    middle = rows
    for many in range(1, len(rows) + 1):
        # Of a matrix of whole numbers these are whole, so the division leaves no rest.
        number = -sum([row[at] for at, row in enumerate(middle)]) // many
        numbers.append(number)
        raised_rows = [[place + number if at == column else place for column, place in enumerate(row)]
                       for at, row in enumerate(middle)]
        middle = multiplied(raised_rows, columns)
    return [(number, many * point) for many, number in enumerate(numbers)]


def transfer(net):
    parts = matrices_of(net)
    bottom = bottom_places(parts[0])
    places = response_places(net, parts, len(bottom))
    top = []
    for many in range(len(bottom)):
        products = [product_at(bottom[at], places[many - at]) for at in range(many + 1)]
        top.append(fraction_at(total_at(products)))
    return (top, [fraction_at(place) for place in bottom])


def sizes_of(numbers, point):
    return (sum([abs(number) for number in numbers]), point)


def sizes_until_halved(parts):
    """The sum of the sizes of all places of C times F to the powers below the one that halves."""
    many = halving(parts[0])
    rows, point = whole_matrix(parts[0])
    led_rows = led_on(turned_over(rows), point, numbers_at(parts[2]), many)
    return total_at([sizes_of(numbers, at) for numbers, at in led_rows])


def tail_of(greatest, sizes):
    """Twice the product of the greatest size in what comes to the holds and the sizes until halved."""
    return product_at((2, 0), product_at(greatest, sizes))


def gain(net, many):
    if not is_whole(many) or not 1 <= many <= MOST_GAIN:
        raise NoSeries("the gain is told by one to sixty places")
    parts = matrices_of(net)
    sizes = sizes_until_halved(parts)
    low = total_at([size_at(place) for place in response_places(net, parts, many)])
    rows, point = whole_matrix(parts[0])
    numbers, at = led_on(rows, point, numbers_at(parts[1]), many)[-1]
    tail = tail_of(greatest_size_at([(number, at) for number in numbers]), sizes)
    high = sum_at(low, product_at(tail, (1, point_to_values(net))))
    return (fraction_at(low), fraction_at(high))


def off_by(net, row, sizes):
    """How far the rounding of a keep row can lead the out row's number off, in all turns together."""
    number, to_holds, to_out = error_of(net, row)
    greatest = greatest_size_at([pointed(one) for one in to_holds])
    off = sum_at(size_at(pointed(to_out)), tail_of(greatest, sizes))
    return product_at(pointed(slack_of(net, row)), off)


def drift(net):
    sizes = sizes_until_halved(matrices_of(net))
    off = total_at([off_by(net, row, sizes) for row in net.keeps()])
    return fraction_at(product_at(off, (1, net.points()[net.out()])))

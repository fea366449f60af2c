"""Whole numbers spelled with the digits -1, 0 and 1, and nets that move and add where others multiply."""

from echobound.nets import Net, renumbered


def spelled(number):
    digits = []
    while number != 0:
        digit = 0
        if number & 1:
            # Of the two odd digits the one that leaves a multiple of four, so that a 0 comes next.
            digit = 2 - (number & 3)
        digits.append(digit)
        number = (number - digit) >> 1
    return digits


def put_times(rows, factor, more, at):
    """Puts rows that have the value of the row at this place times the factor, over 2 ** more."""
    rows.append(("less", at, at))
    for place, digit in enumerate(spelled(factor)):
        if digit != 0:
            last = len(rows) - 1
            rows.append(("move", place - more, at))
            rows.append(("plus" if digit == 1 else "less", last, last + 1))


def without_times(net):
    forms = list(range(len(net.forms())))
    holds = list(range(len(net.holds())))
    rows = []
    places = []
    for row in net.rows():
        if row[0] == "times":
            put_times(rows, row[1], row[2], places[row[3]])
        else:
            rows.append(renumbered(row, forms, places, holds))
        places.append(len(rows) - 1)
    moved = [(form, word, places[row]) for form, word, row in net.holds()]
    return (Net(net.forms(), net.enters(), rows, moved, places[net.out()]), places)

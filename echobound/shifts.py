"""Shifts behind the sections of a chain, as low as nothing getting too great allows, and the best order of sections."""

from echobound.errors import NoChoice
from echobound.fractions import ONE, is_whole, lowest, under
from echobound.reckoning import cleared, is_fractions, sum_of_products
from echobound.series import product_of

MOST_SECTIONS = 4
MOST_PLACES = 8
GREATEST_PART = 10 ** 6
GREATEST_SIZE = 10 ** 12


def is_section(thing):
    if not is_fractions(thing) or not 1 <= len(thing) <= MOST_PLACES:
        return False
    return all([abs(top) <= GREATEST_PART and bottom <= GREATEST_PART for top, bottom in thing])


def is_size(thing):
    return is_whole(thing) and 1 <= thing <= GREATEST_SIZE


def check_chain(sections, most, limit):
    if not isinstance(sections, list) or not 1 <= len(sections) <= MOST_SECTIONS:
        raise NoChoice("a chain has one to four sections")
    if not all([is_section(section) for section in sections]):
        raise NoChoice("a section is a list of one to eight fractions of not too great numbers")
    if not is_size(most) or not is_size(limit):
        raise NoChoice("what comes in, and what may come out, has a size from 1 to 10 ** 12")


def sizes_of_all(series):
    """The sum of the sizes of all places."""
    tops, bottom = cleared(series)
    return lowest(sum([abs(top) for top in tops]), bottom)


def products_from(sections):
    """The products of the first one, the first two, and so on."""
    told = [sections[0]]
    for section in sections[1:]:
        told.append(product_of(told[-1], section))
    return told


def sizes_behind(sections):
    """For each section the sum of the sizes of the product of those behind it, 1 behind the last one."""
    if len(sections) == 1:
        return [ONE]
    # From the last one on, as the order of its sections changes nothing of a product.
    behind = [sizes_of_all(series) for series in products_from(sections[:0:-1])]
    return [*behind[::-1], ONE]


def shift_sums(products, most, limit):
    """How far what comes out behind each section is moved down in all."""
    total = 0
    told = []
    for series in products:
        top, bottom = sizes_of_all(series)
        while most * top > (limit * bottom) << total:
            total += 1
        told.append(total)
    return told


def shifts_by(sums):
    return [total - ahead for total, ahead in zip(sums, [0, *sums])]


def error_by(sums, sections):
    halves = [lowest(1 << total, 2) for total in sums]
    return sum_of_products(halves, sizes_behind(sections))


def row_to_most(series, most):
    """The numbers most and less most, in the order in which they come in, whose last answer is the greatest."""
    return [most if top >= 0 else -most for top, bottom in series[::-1]]


def chosen(sections, most, limit):
    check_chain(sections, most, limit)
    products = products_from(sections)
    sums = shift_sums(products, most, limit)
    shifts = shifts_by(sums)
    why = [row_to_most(series, most) if shift else None for series, shift in zip(products, shifts)]
    return (shifts, error_by(sums, sections), why)


def orders_of(many):
    """All orders of so many numbers from 0 on, sorted."""
    orders = [[]]
    for place in range(many):
        orders = [[*ahead, number] for ahead in orders for number in range(many) if number not in ahead]
    return orders


def best_order(sections, most, limit):
    check_chain(sections, most, limit)
    rows = []
    best = 0
    for order in orders_of(len(sections)):
        ordered = [sections[number] for number in order]
        sums = shift_sums(products_from(ordered), most, limit)
        rows.append((order, shifts_by(sums), error_by(sums, ordered)))
        if under(rows[-1][2], rows[best][2]):
            best = len(rows) - 1
    order, shifts, error = rows[best]
    return (list(order), list(shifts), error, rows)

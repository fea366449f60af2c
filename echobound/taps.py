"""Taps: the greatest and the least sum that rows of numbers make with them, and the width that has room for all."""

from echobound.builds import is_numbers
from echobound.errors import NoChoice
from echobound.forms import Form
from echobound.fractions import is_whole
from echobound.reckoning import dot

MOST_TAPS = 40
LEAST_WIDTH = 2


def check_taps(taps):
    if not is_numbers(taps, 1, MOST_TAPS):
        raise NoChoice("taps are a list of one to forty whole numbers of at most eighteen figures")


def extremes(taps, low, high):
    check_taps(taps)
    if not is_whole(low) or not is_whole(high) or low > high:
        raise NoChoice("a row's numbers lie between two whole numbers, the first at most the second")
    least = [high if tap < 0 else low for tap in taps]
    greatest = [high if tap > 0 else low for tap in taps]
    # The first tap goes with what came in last.
    return (dot(taps, least), least[::-1], dot(taps, greatest), greatest[::-1])


def width_for(number):
    """The least width, from 2 on, that has room for a number."""
    size = number if number >= 0 else -number - 1
    return max(LEAST_WIDTH, size.bit_length() + 1)


def guard(taps, form):
    check_taps(taps)
    if not isinstance(form, Form) or form.width is None:
        raise NoChoice("only a form with a width has words that end")
    least, least_row, greatest, greatest_row = extremes(taps, form.least(), form.greatest())
    width = max(width_for(least), width_for(greatest))
    if width == LEAST_WIDTH:
        return (width, None)
    return (width, greatest_row if width_for(greatest) == width else least_row)

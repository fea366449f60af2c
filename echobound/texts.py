"""Fractions, ways, forms and nets as texts, and back."""

from echobound.errors import BadForm, NoText
from echobound.forms import Form
from echobound.fractions import is_fraction
from echobound.nets import ROW_LENGTHS, Net

FIGURES = "0123456789"
MOST_FIGURES = 400
FREE = "free"
# The lines of a net but those of forms and rows, and how many numbers each one has.
OTHER_LENGTHS = {"enters": 1, "hold": 3, "out": 1}
# For each part of a net's text the parts that may stand ahead of it; None is ahead of the first line.
PARTS_AHEAD = {
    "form": (None, "form"),
    "enters": (None, "form"),
    "row": ("enters", "row"),
    "hold": ("enters", "row", "hold"),
    "out": ("enters", "row", "hold"),
}


def whole_of(text):
    """The whole number that is written as the text, or None where none of at most four hundred figures is."""
    figures = text.removeprefix("-")
    if not 1 <= len(figures) <= MOST_FIGURES or not all([sign in FIGURES for sign in figures]):
        return None
    number = int(text)
    # A nought ahead, and one below 0, is written in no number.
    return number if f"{number}" == text else None


def wholes_of(texts):
    """The whole numbers that are written as the texts, or None where one is none."""
    numbers = [whole_of(text) for text in texts]
    return None if None in numbers else numbers


def show_fraction(one):
    top, bottom = one
    return f"{top}" if bottom == 1 else f"{top}/{bottom}"


def show_way(words):
    return " ".join([f"{word}" for word in words])


def show_form(form):
    return str(form)


def show_row(row):
    """A row, or another line of a word and its numbers."""
    return " ".join([row[0], *[f"{number}" for number in row[1:]]])


def show_net(net):
    lines = [f"form {form}" for form in net.forms()]
    lines.append(show_row(("enters", net.enters())))
    lines += [show_row(row) for row in net.rows()]
    lines += [show_row(("hold", *hold)) for hold in net.holds()]
    lines.append(show_row(("out", net.out())))
    return "\n".join(lines)


def check_text(thing):
    if not isinstance(thing, str):
        raise NoText(0)


def read_fraction(text):
    check_text(text)
    numbers = wholes_of(text.split("/"))
    if numbers is None or len(numbers) > 2:
        raise NoText(0)
    if len(numbers) == 1:
        return (numbers[0], 1)
    # Over 1 a fraction is written without its bottom.
    if numbers[1] == 1 or not is_fraction((numbers[0], numbers[1])):
        raise NoText(0)
    return (numbers[0], numbers[1])


def read_way(text):
    check_text(text)
    numbers = wholes_of(text.split(" ")) if text else []
    if numbers is None:
        raise NoText(0)
    return numbers


def form_of(text):
    """The form that is written as the text, or None where none is."""
    words = text.split(" ")
    if len(words) != 3:
        return None
    width_text, dot, point_text = words[0].partition(".")
    width = None if width_text == FREE else whole_of(width_text)
    if width is None and width_text != FREE:
        return None
    try:
        return Form(width, whole_of(point_text), words[1], words[2])
    except BadForm:
        return None


def read_form(text):
    check_text(text)
    form = form_of(text)
    if form is None:
        raise NoText(0)
    return form


def part_of_line(line):
    """The part of a net that a line has, and what it tells of it, or None where it is no line of a net."""
    word, blank, rest = line.partition(" ")
    if word == "form":
        form = form_of(rest)
        return None if form is None else ("form", form)
    numbers = wholes_of(line.split(" ")[1:])
    if numbers is None:
        return None
    if word in ROW_LENGTHS and len(numbers) + 1 == ROW_LENGTHS[word]:
        return ("row", (word, *numbers))
    if word in OTHER_LENGTHS and len(numbers) == OTHER_LENGTHS[word]:
        return (word, tuple(numbers))
    return None


def parts_of_text(text):
    """What the lines of a net's text tell, a list for each part."""
    told = {part: [] for part in PARTS_AHEAD}
    last = None
    lines = text.split("\n")
    for at, line in enumerate(lines):
        found = part_of_line(line)
        if found is None or last not in PARTS_AHEAD[found[0]]:
            raise NoText(at + 1)
        last = found[0]
        told[last].append(found[1])
    if last != "out":
        raise NoText(len(lines) + 1)
    return told


def read_net(text):
    check_text(text)
    told = parts_of_text(text)
    return Net(told["form"], told["enters"][0][0], told["row"], told["hold"], told["out"][0][0])

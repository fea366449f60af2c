"""Turns of nets, and machines that make them one behind the other and can take them back."""

from echobound.errors import BadState, NoTurn, Unfit
from echobound.fractions import is_whole
from echobound.nets import enter_form, swept
from echobound.reckoning import fraction_at


def is_state(net, thing):
    holds = net.holds()
    if not isinstance(thing, tuple) or len(thing) != len(holds):
        return False
    forms = net.forms()
    return all([forms[hold[0]].has(word) for hold, word in zip(holds, thing)])


def check_state(net, state):
    if not is_state(net, state):
        raise BadState("a state has a word for each hold, of its form")


def check_word(net, word):
    if not enter_form(net).has(word):
        raise Unfit(0)


def check_run(net, words):
    form = enter_form(net)
    for at, word in enumerate(words):
        if not form.has(word):
            raise Unfit(at)


def first_state(net, state):
    """The state handed in, or the start where it is None."""
    if state is None:
        return net.start()
    check_state(net, state)
    return state


def sum_number(row, numbers, points):
    """The number of a plus or a less row, both of its rows taken to the greater one of their points."""
    word, one, other = row
    point = max(points[one], points[other])
    left = numbers[one] << (point - points[one])
    right = numbers[other] << (point - points[other])
    return left + right if word == "plus" else left - right


def number_of_row(row, numbers, forms, points):
    kind = row[0]
    if kind == "times":
        return row[1] * numbers[row[3]]
    if kind == "move":
        return numbers[row[2]]
    if kind == "keep":
        return forms[row[1]].kept_at(numbers[row[2]], points[row[2]])[0]
    return sum_number(row, numbers, points)


def state_behind(net, numbers):
    """The state to which a turn of these numbers leads."""
    return tuple([numbers[hold[2]] for hold in net.holds()])


def turn_of(net, state, word):
    """A turn from what is known to be a state, with what is known to be a word."""
    numbers = swept(net, word, state, number_of_row)
    return (numbers, state_behind(net, numbers))


def out_value(net, numbers):
    """The out row's value where the rows have these numbers."""
    return fraction_at((numbers[net.out()], net.points()[net.out()]))


def went_over(net, row, numbers):
    """Whether a keep row goes over where the rows have these numbers."""
    word, form, at = net.rows()[row]
    return net.forms()[form].kept_at(numbers[at], net.points()[at])[1] != 0


def turned(net, state, word):
    check_state(net, state)
    check_word(net, word)
    return turn_of(net, state, word)


def overs(net, numbers):
    return [row for row in net.keeps() if went_over(net, row, numbers)]


def run(net, words, state=None):
    state = first_state(net, state)
    check_run(net, words)
    told = []
    for word in words:
        numbers, state = turn_of(net, state, word)
        told.append(numbers[net.out()])
    return told


class Machine:
    """A net at a state, with all turns behind it that led there."""

    def __init__(self, net, state=None):
        self.first = first_state(net, state)
        self.net = net
        self.past = []

    def turn(self, word):
        check_word(self.net, word)
        numbers, after = turn_of(self.net, self.state(), word)
        self.past.append((numbers, overs(self.net, numbers), after))
        return numbers[self.net.out()]

    def turns(self):
        return len(self.past)

    def state(self):
        return self.past[-1][2] if self.past else self.first

    def numbers(self):
        return list(self.past[-1][0]) if self.past else []

    def overs(self):
        return list(self.past[-1][1]) if self.past else []

    def went(self):
        return [(at + 1, row) for at, made in enumerate(self.past) for row in made[1]]

    def back(self, many=1):
        if not is_whole(many) or not 0 <= many <= len(self.past):
            raise NoTurn(len(self.past))
        self.past = self.past[:len(self.past) - many]

    def twin(self):
        other = Machine(self.net, self.first)
        other.past = list(self.past)
        return other

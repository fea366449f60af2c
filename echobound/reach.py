"""All states to which rows of some words lead, and what can never come in any of them, however long the row."""

from echobound.errors import NoState, NoWords, TooMany
from echobound.fractions import is_whole
from echobound.machines import is_state, turn_of, went_over
from echobound.nets import enter_form, is_keep_number, is_row_number

MOST_WORDS = 9
MOST_STATES = 600


def is_words(form, thing):
    """Whether a thing is a list of one to nine words of the form, no two alike."""
    if not isinstance(thing, list) or not 1 <= len(thing) <= MOST_WORDS:
        return False
    return all([form.has(word) for word in thing]) and len(set(thing)) == len(thing)


def check_words(net, words):
    if not is_words(enter_form(net), words):
        raise NoWords("one to nine words of the form that comes in are looked at, no two alike")


def check_most(most):
    if not is_whole(most) or not 1 <= most <= MOST_STATES:
        raise NoWords("at most one to six hundred are looked at")


def check_row(net, row):
    if not is_row_number(net, row):
        raise NoState("the net has no row of this number")


def explored(net, words, most):
    """The states, how each one first came, and the turns from each one with each word.

    How a state came is the number of the state behind which it did, and the word by which; None for the start.
    A turn is the numbers of all rows and the next state.
    """
    states = [net.start()]
    known = {net.start(): True}
    origins = [None]
    turns = []
    at = 0
    while at < len(states):
        for word in words:
            made = turn_of(net, states[at], word)
            turns.append(made)
            if made[1] not in known:
                if len(states) == most:
                    raise TooMany(most)
                known[made[1]] = True
                states.append(made[1])
                origins.append((at, word))
        at += 1
    return (states, origins, turns)


def way_by(origins, at):
    """The words that lead to the thing of this number, by how each one first came."""
    way = []
    while origins[at] is not None:
        at, word = origins[at]
        way.append(word)
    return way[::-1]


class Reach:
    """A net, some words, and all states to which rows of these words lead from its start."""

    def __init__(self, net, words, most=300):
        check_words(net, words)
        check_most(most)
        states, origins, turns = explored(net, words, most)
        self.net = net
        self.word_list = list(words)
        self.state_list = states
        self.place_by_state = {state: at for at, state in enumerate(states)}
        self.origin_list = origins
        self.turn_list = turns

    def states(self):
        return list(self.state_list)

    def words(self):
        return list(self.word_list)

    def place_of(self, state):
        """The place of a state in the list."""
        # Only a state may be looked up: a truth would be taken for the number that it equals.
        if not is_state(self.net, state) or state not in self.place_by_state:
            raise NoState("the list has no such state")
        return self.place_by_state[state]

    def turns_from(self, place):
        """The turns from the state at this place, one for each word."""
        many = len(self.word_list)
        return self.turn_list[place * many:(place + 1) * many]

    def way_by_turn(self, at):
        """The way to the state from which this turn goes, and its word."""
        place, word_at = divmod(at, len(self.word_list))
        return [*way_by(self.origin_list, place), self.word_list[word_at]]

    def way_to(self, state):
        return way_by(self.origin_list, self.place_of(state))

    def nexts(self, state):
        return [after for numbers, after in self.turns_from(self.place_of(state))]

    def numbers_in(self, row):
        """The numbers that a row has, turn by turn."""
        check_row(self.net, row)
        return [numbers[row] for numbers, after in self.turn_list]

    def least(self, row):
        numbers = self.numbers_in(row)
        number = min(numbers)
        return (number, self.way_by_turn(numbers.index(number)))

    def greatest(self, row):
        numbers = self.numbers_in(row)
        number = max(numbers)
        return (number, self.way_by_turn(numbers.index(number)))

    def way_over(self, row):
        check_row(self.net, row)
        if not is_keep_number(self.net, row):
            return None
        for at, made in enumerate(self.turn_list):
            if went_over(self.net, row, made[0]):
                return self.way_by_turn(at)
        return None

    def __len__(self):
        return len(self.state_list)


def is_closed(net, words, states):
    check_words(net, words)
    if not isinstance(states, list) or not all([is_state(net, state) for state in states]):
        return False
    known = {state: True for state in states}
    if net.start() not in known:
        return False
    return all([turn_of(net, state, word)[1] in known for state in known for word in words])

"""States of a net that answer alike to every row of words, put together: the least machine that tells the same."""

from echobound.errors import NoWords
from echobound.fractions import is_whole
from echobound.machines import out_value
from echobound.reach import Reach

MOST_STATES = 100


def numbered(signs):
    """For each sign the number that it has among the unlike ones, in the order in which they first come."""
    numbers = {}
    for sign in signs:
        if sign not in numbers:
            numbers[sign] = len(numbers)
    return [numbers[sign] for sign in signs]


def levels_of(outs, nexts):
    """For each number of words, from 0 on, the class of each state among those that so many words leave alike.

    The last level is the first one that no further word parts. Outs and nexts have, for each state, what each word
    tells and the place of the state to which it leads.
    """
    levels = []
    level = [0] * len(outs)
    while not levels or level != levels[-1]:
        levels.append(level)
        # Alike by one word more are states that tell the same and lead to states that were alike so far.
        level = numbered([(told, tuple([level[after] for after in afters])) for told, afters in zip(outs, nexts)])
    return levels


class Least:
    """A net, some words, and its states in classes of those that answer alike."""

    def __init__(self, net, words, most=60):
        if not is_whole(most) or not 1 <= most <= MOST_STATES:
            raise NoWords("at most one to a hundred states are put into classes")
        self.reach = Reach(net, words, most)
        turns = [self.reach.turns_from(place) for place in range(len(self.reach))]
        self.value_rows = [tuple([out_value(net, numbers) for numbers, after in row]) for row in turns]
        self.next_rows = [[self.reach.place_of(after) for numbers, after in row] for row in turns]
        self.levels = levels_of(self.value_rows, self.next_rows)

    def class_list(self):
        """The number of each state's class."""
        return self.levels[-1]

    def classes(self):
        told = [[] for number in range(len(self))]
        for state, number in zip(self.reach.states(), self.class_list()):
            told[number].append(state)
        return told

    def class_of(self, state):
        return self.class_list()[self.reach.place_of(state)]

    def table(self):
        numbers = self.class_list()
        firsts = [numbers.index(number) for number in range(len(self))]
        return [[(value, numbers[after]) for value, after in zip(self.value_rows[at], self.next_rows[at])]
                for at in firsts]

    def word_apart(self, one, other, level):
        """The place of the first word by which two states tell other values, or lead to states that the level parts."""
        at = 0
        while (self.value_rows[one][at] == self.value_rows[other][at]
               and level[self.next_rows[one][at]] == level[self.next_rows[other][at]]):
            at += 1
        return at

    def way(self, one, other):
        at = self.reach.place_of(one)
        beside = self.reach.place_of(other)
        if self.class_list()[at] == self.class_list()[beside]:
            return None
        words = self.reach.words()
        depth = [level[at] == level[beside] for level in self.levels].index(False)
        told = []
        while depth > 0:
            depth -= 1
            by = self.word_apart(at, beside, self.levels[depth])
            told.append(words[by])
            at = self.next_rows[at][by]
            beside = self.next_rows[beside][by]
        return told

    def rounds(self):
        return len(self.levels) - 1

    def __len__(self):
        return len(set(self.class_list()))

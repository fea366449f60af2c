"""Rings: where every state of a net comes to, with one word standing still."""

from echobound.errors import NoState, TooMany
from echobound.machines import check_state, check_word, turn_of, went_over
from echobound.nets import is_place
from echobound.reach import check_most, check_row


def check_room(net, most):
    """Refuses a net that has more states than most."""
    forms = net.forms()
    many = 1
    for hold in net.holds():
        width = forms[hold[0]].width
        if width is None:
            raise TooMany(most)
        many = many << width
    if many > most:
        raise TooMany(most)


def all_states(net):
    """All tuples with a word for each hold, sorted."""
    forms = net.forms()
    states = [()]
    for hold in net.holds():
        form = forms[hold[0]]
        words = list(range(form.least(), form.greatest() + 1))
        states = [(*state, word) for state in states for word in words]
    return states


def ring_from(state, nexts):
    """The ring on which a state lies, from its least state on."""
    ring = [state]
    while nexts[ring[-1]] != state:
        ring.append(nexts[ring[-1]])
    first = ring.index(min(ring))
    return ring[first:] + ring[:first]


def all_rings(states, nexts):
    """All rings to which the states lead, sorted; nexts has the next state of each one."""
    walks = {}
    rings = []
    for walk, first in enumerate(states):
        state = first
        while state not in walks:
            walks[state] = walk
            state = nexts[state]
        # A walk that came to itself, and to no earlier one, has just closed a ring.
        if walks[state] == walk:
            rings.append(ring_from(state, nexts))
    return sorted(rings)


class Rings:
    """A net, a word that stands still, and all rings to which its states come."""

    def __init__(self, net, word=0, most=300):
        check_word(net, word)
        check_most(most)
        check_room(net, most)
        states = all_states(net)
        turns = {state: turn_of(net, state, word) for state in states}
        self.net = net
        self.state_list = states
        self.next_by_state = {state: turns[state][1] for state in states}
        self.numbers_by_state = {state: turns[state][0] for state in states}
        self.ring_list = all_rings(states, self.next_by_state)
        self.spot_by_state = {state: (number, place) for number, ring in enumerate(self.ring_list)
                              for place, state in enumerate(ring)}

    def states(self):
        return list(self.state_list)

    def rings(self):
        return [list(ring) for ring in self.ring_list]

    def lead(self, state):
        check_state(self.net, state)
        turns = 0
        while state not in self.spot_by_state:
            state = self.next_by_state[state]
            turns += 1
        number, place = self.spot_by_state[state]
        return (turns, number, place)

    def ring_of(self, number):
        if not is_place(number, len(self.ring_list)):
            raise NoState("there is no ring of this number")
        return self.ring_list[number]

    def outs(self, ring):
        return [self.numbers_by_state[state][self.net.out()] for state in self.ring_of(ring)]

    def overs(self, ring):
        return [(place, row) for place, state in enumerate(self.ring_of(ring)) for row in self.net.keeps()
                if went_over(self.net, row, self.numbers_by_state[state])]

    def still(self):
        return all([len(ring) == 1 for ring in self.ring_list])

    def quiet(self):
        return self.ring_list == [[(0,) * len(self.net.holds())]]

    def echo(self, row):
        check_row(self.net, row)
        numbers = [self.numbers_by_state[state][row] for ring in self.ring_list for state in ring]
        return (min(numbers), max(numbers))

    def __len__(self):
        return len(self.state_list)

"""Rings: where every state of a net comes to, with one word standing still."""

from echobound.errors import NoState, TooMany, TooSlow
from echobound.machines import check_state, check_word, turn_of, went_over
from echobound.nets import is_place
from echobound.reach import check_most, check_row


def check_room(net, most):
    """Refuses a net that has more states than most."""
    forms = net.forms()
    many = 1
    for hold in net.holds():
        width = forms[hold[0]].width
        if width is None:
            raise TooMany(most)
        many = many << width
    if many > most:
        raise TooMany(most)


def all_tuples(choices):
    """All tuples with one thing of each list, sorted where the lists are."""
    told = [()]
    for things in choices:
        told = [(*ahead, thing) for ahead in told for thing in things]
    return told


def all_states(net):
    """All tuples with a word for each hold, sorted."""
    forms = [net.forms()[hold[0]] for hold in net.holds()]
    return all_tuples([list(range(form.least(), form.greatest() + 1)) for form in forms])


def turns_behind(net, word, states):
    """The turn with the word from each of the states, and from each one that comes behind them."""
    turns = {}
    for first in states:
        state = first
        while state not in turns:
            turns[state] = turn_of(net, state, word)
            state = turns[state][1]
    return turns


def ring_from(state, turns):
    """The ring on which a state lies, from its least state on."""
    ring = [state]
    while turns[ring[-1]][1] != state:
        ring.append(turns[ring[-1]][1])
    first = ring.index(min(ring))
    return ring[first:] + ring[:first]


def all_rings(states, turns):
    """All rings to which the states lead, sorted."""
    walks = {}
    rings = []
    for walk, first in enumerate(states):
        state = first
        while state not in walks:
            walks[state] = walk
            state = turns[state][1]
        # A walk that came to itself, and to no earlier one, has just closed a ring.
        if walks[state] == walk:
            rings.append(ring_from(state, turns))
    return sorted(rings)


class RingBook:
    """All rings to which some states come, with a word standing still, and what is told of them."""

    def __init__(self, net, word, states):
        self.net = net
        self.word = word
        self.turn_by_state = turns_behind(net, word, states)
        self.ring_list = all_rings(states, self.turn_by_state)
        self.spot_by_state = {state: (number, place) for number, ring in enumerate(self.ring_list)
                              for place, state in enumerate(ring)}

    def next_of(self, state):
        if state in self.turn_by_state:
            return self.turn_by_state[state][1]
        return turn_of(self.net, state, self.word)[1]

    def lead(self, state, most):
        turns = 0
        while state not in self.spot_by_state:
            if turns == most:
                raise TooSlow(most)
            state = self.next_of(state)
            turns += 1
        number, place = self.spot_by_state[state]
        return (turns, number, place)

    def rings(self):
        return [list(ring) for ring in self.ring_list]

    def numbers_on(self, ring):
        """The numbers of all rows at the turns from the states of a ring."""
        if not is_place(ring, len(self.ring_list)):
            raise NoState("there is no ring of this number")
        return [self.turn_by_state[state][0] for state in self.ring_list[ring]]

    def outs(self, ring):
        return [numbers[self.net.out()] for numbers in self.numbers_on(ring)]

    def still(self):
        return all([len(ring) == 1 for ring in self.ring_list])

    def quiet(self):
        return self.ring_list == [[(0,) * len(self.net.holds())]]

    def echo(self, row):
        check_row(self.net, row)
        numbers = [self.turn_by_state[state][0][row] for ring in self.ring_list for state in ring]
        return (min(numbers), max(numbers))


class Rings:
    """A net, a word that stands still, and all rings to which its states come."""

    def __init__(self, net, word=0, most=300):
        check_word(net, word)
        check_most(most)
        check_room(net, most)
        self.net = net
        self.state_list = all_states(net)
        self.book = RingBook(net, word, self.state_list)

    def states(self):
        return list(self.state_list)

    def rings(self):
        return self.book.rings()

    def lead(self, state):
        check_state(self.net, state)
        # No walk is longer than there are states.
        return self.book.lead(state, len(self.state_list))

    def outs(self, ring):
        return self.book.outs(ring)

    def overs(self, ring):
        return [(place, row) for place, numbers in enumerate(self.book.numbers_on(ring)) for row in self.net.keeps()
                if went_over(self.net, row, numbers)]

    def still(self):
        return self.book.still()

    def quiet(self):
        return self.book.quiet()

    def echo(self, row):
        return self.book.echo(row)

    def __len__(self):
        return len(self.state_list)

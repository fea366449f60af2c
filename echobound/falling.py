"""All rings of a net without ends: from all states but a few a worth falls, so none lies beyond these few."""

from echobound.errors import NotFree, NoWords, TooMany
from echobound.fractions import plus, size_of, times
from echobound.machines import check_state, check_word, turn_of
from echobound.matrices import product
from echobound.nets import is_place
from echobound.reach import check_most
from echobound.reckoning import cleared, cleared_rows, dot, sum_of_products
from echobound.rings import RingBook, all_tuples
from echobound.stillness import still_weights
from echobound.twins import errors_of, matrices_of, slack_of

MOST_TURNS = 5000


def check_free(net):
    forms = net.forms()
    rows = net.rows()
    for at in net.keeps():
        if forms[rows[at][1]].width is not None:
            raise NotFree(at)


def slacks_at(net, column, word):
    """By how much, at most, each hold's number parts at a turn from what F leads the state to."""
    errors = errors_of(net)
    slacks = [slack_of(net, row) for row, to_holds, to_out in errors]
    told = []
    for at, place in enumerate(column):
        sizes = [size_of(to_holds[at]) for row, to_holds, to_out in errors]
        told.append(plus(sum_of_products(slacks, sizes), size_of(times(place, (word, 1)))))
    return told


def weighed_sizes(matrix, weights):
    """The sum of the sizes of all places of a matrix, each times the weight of its row."""
    pairs = [(weight, size_of(place)) for weight, row in zip(weights, matrix) for place in row]
    return sum_of_products([weight for weight, size in pairs], [size for weight, size in pairs])


def radius_up_to(most, matrix, weights, slacks):
    """The greatest size that a number of a lazy state may have; most + 1 where it is above most."""
    by_size = weighed_sizes(product(weights, matrix), slacks)
    by_slack = [[times(place, slack) for place, slack in zip(row, slacks)] for row in weights]
    (ahead, alone), bottom = cleared([by_size, weighed_sizes(by_slack, slacks)])
    radius = 0
    # What has to hold does so for all sizes up to the greatest one, as the curve bends only once.
    while radius <= most and bottom * (radius + 1) * (radius + 1) <= 2 * ahead * (radius + 1) + alone:
        radius += 1
    return radius


def check_looked_at(radius, holds, most):
    many = 1
    for hold in holds:
        many = many * (2 * radius + 1)
    if many > most:
        raise TooMany(most)


def lazy_states(net, word, weights, radius):
    """All states up to the radius whose worth does not fall at the turn with the word, sorted."""
    # All over one bottom, which changes nothing of which worth is the greater one.
    rows = cleared_rows(weights)[0]
    told = []
    for state in all_tuples([list(range(-radius, radius + 1)) for hold in net.holds()]):
        after = turn_of(net, state, word)[1]
        if dot(after, [dot(row, after) for row in rows]) >= dot(state, [dot(row, state) for row in rows]):
            told.append(state)
    return told


class AllRings:
    """A net without ends, a word that stands still, and all rings to which its states of any size come."""

    def __init__(self, net, word=0, most=600):
        check_word(net, word)
        check_most(most)
        check_free(net)
        matrix, column, row, through = matrices_of(net)
        self.weights = still_weights(matrix)
        self.slacks = slacks_at(net, column, word)
        self.radius = radius_up_to(most, matrix, self.weights, self.slacks)
        check_looked_at(self.radius, net.holds(), most)
        self.net = net
        self.lazy_list = lazy_states(net, word, self.weights, self.radius)
        self.book = RingBook(net, word, self.lazy_list)

    def grounds(self):
        return ([list(row) for row in self.weights], list(self.slacks), self.radius)

    def lazy(self):
        return list(self.lazy_list)

    def rings(self):
        return self.book.rings()

    def lead(self, state, most=1000):
        check_state(self.net, state)
        if not is_place(most, MOST_TURNS + 1):
            raise NoWords("at most none to five thousand turns are looked at")
        return self.book.lead(state, most)

    def outs(self, ring):
        return self.book.outs(ring)

    def still(self):
        return self.book.still()

    def quiet(self):
        return self.book.quiet()

    def echo(self, row):
        return self.book.echo(row)

    def __len__(self):
        return len(self.lazy_list)

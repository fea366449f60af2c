"""Two nets side by side: whether they answer alike to every row of words, or which shortest row parts them."""

from echobound.errors import TooMany
from echobound.machines import is_state, out_value, turn_of
from echobound.reach import check_most, check_words, way_by


def turn_of_pair(one, other, pair, word):
    """Whether the out values of both nets at the turn from a pair are alike, and the pair of both next states."""
    numbers, after = turn_of(one, pair[0], word)
    other_numbers, other_after = turn_of(other, pair[1], word)
    return (out_value(one, numbers) == out_value(other, other_numbers), (after, other_after))


def meet(one, other, words, most=300):
    check_words(one, words)
    check_words(other, words)
    check_most(most)
    pairs = [(one.start(), other.start())]
    known = {pairs[0]: True}
    origins = [None]
    depths = [0]
    first = 0
    while first < len(pairs):
        # All pairs of one depth, as none deeper is told, or counted, where one of these parts the nets.
        turns = [(at, word, turn_of_pair(one, other, pairs[at], word))
                 for at in range(first, len(pairs)) for word in words]
        for at, word, (alike, after) in turns:
            if not alike:
                told = [(*pair, depth) for pair, depth in zip(pairs, depths)]
                return ("parted", [*way_by(origins, at), word], told)
        first = len(pairs)
        for at, word, (alike, after) in turns:
            if after not in known:
                if len(pairs) == most:
                    raise TooMany(most)
                known[after] = True
                pairs.append(after)
                origins.append((at, word))
                depths.append(depths[at] + 1)
    return ("alike", pairs)


def is_pair(one, other, thing):
    if not isinstance(thing, tuple) or len(thing) != 2:
        return False
    return is_state(one, thing[0]) and is_state(other, thing[1])


def is_meeting(one, other, words, pairs):
    check_words(one, words)
    check_words(other, words)
    if not isinstance(pairs, list) or not all([is_pair(one, other, pair) for pair in pairs]):
        return False
    known = {pair: True for pair in pairs}
    if (one.start(), other.start()) not in known:
        return False
    turns = [turn_of_pair(one, other, pair, word) for pair in known for word in words]
    return all([alike and after in known for alike, after in turns])

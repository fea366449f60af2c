"""A desk that keeps nets and machines by names, and answers lines."""

from echobound.boxes import box
from echobound.errors import NoLine, NoName
from echobound.machines import Machine, check_run, run
from echobound.meets import meet
from echobound.reach import Reach
from echobound.rings import Rings
from echobound.stillness import stillness
from echobound.texts import read_net, show_fraction, show_net, show_row, show_way, whole_of
from echobound.twins import drift, gain, matrices_of

SMALL_LETTERS = "abcdefghijklmnopqrstuvwxyz"
LONGEST_NAME = 8
DONE = "ok"

# Each answer below takes the desk and what stands in the line behind its first word: names, which are known to stand
# there, numbers, and a list of words at the end where the line has one.


def drop_net(desk, given):
    desk.net_by_name.pop(given[0])
    return DONE


def tell_nets(desk, given):
    return " ".join(sorted(desk.net_by_name))


def tell_machines(desk, given):
    return " ".join(sorted(desk.machine_by_name))


def tell_text(desk, given):
    return show_net(desk.net_by_name[given[0]])


def tell_same(desk, given):
    return "yes" if desk.net_by_name[given[0]] == desk.net_by_name[given[1]] else "no"


def put_machine(desk, given):
    desk.machine_by_name[given[0]] = Machine(desk.net_by_name[given[1]])
    return DONE


def put_twin(desk, given):
    desk.machine_by_name[given[0]] = desk.machine_by_name[given[1]].twin()
    return DONE


def make_turns(desk, given):
    name, words = given
    machine = desk.machine_by_name[name]
    # All are looked at ahead of the first turn, as either all are made or none.
    check_run(machine.net, words)
    return show_way([machine.turn(word) for word in words])


def take_back(desk, given):
    name, many = given
    desk.machine_by_name[name].back(many)
    return DONE


def tell_state(desk, given):
    return show_way(desk.machine_by_name[given[0]].state())


def tell_numbers(desk, given):
    return show_way(desk.machine_by_name[given[0]].numbers())


def tell_went(desk, given):
    return ", ".join([show_way(pair) for pair in desk.machine_by_name[given[0]].went()])


def tell_run(desk, given):
    name, words = given
    return show_way(run(desk.net_by_name[name], words))


def show_end(end):
    number, way = end
    return f"{number} by {show_way(way)}"


def tell_ends(desk, given):
    name, row, words = given
    reach = Reach(desk.net_by_name[name], words)
    return f"{show_end(reach.least(row))}, {show_end(reach.greatest(row))}"


def tell_over(desk, given):
    name, row, words = given
    way = Reach(desk.net_by_name[name], words).way_over(row)
    return "never" if way is None else f"by {show_way(way)}"


def tell_box(desk, given):
    name, low, high = given
    word, holds, rows, rounds = box(desk.net_by_name[name], low, high)
    lines = [f"{rounds}"]
    lines += [show_row(("hold", *stretch)) for stretch in holds]
    lines += [show_row(("row", *stretch)) for stretch in rows]
    return "\n".join(lines)


def tell_rings(desk, given):
    name, word = given
    rings = Rings(desk.net_by_name[name], word).rings()
    return "\n".join([", ".join([show_way(state) for state in ring]) for ring in rings])


def tell_lead(desk, given):
    name, word, state = given
    return show_way(Rings(desk.net_by_name[name], word).lead(tuple(state)))


def tell_still(desk, given):
    return stillness(matrices_of(desk.net_by_name[given[0]])[0])[0]


def tell_gain(desk, given):
    name, many = given
    low, high = gain(desk.net_by_name[name], many)
    return f"{show_fraction(low)} {show_fraction(high)}"


def tell_drift(desk, given):
    return show_fraction(drift(desk.net_by_name[given[0]]))


def tell_meet(desk, given):
    name, other, words = given
    told = meet(desk.net_by_name[name], desk.net_by_name[other], words)
    return "alike" if told[0] == "alike" else f"parted by {show_way(told[1])}"


ANSWERS = {
    "drop": drop_net,
    "nets": tell_nets,
    "machines": tell_machines,
    "show": tell_text,
    "same": tell_same,
    "machine": put_machine,
    "twin": put_twin,
    "turn": make_turns,
    "back": take_back,
    "state": tell_state,
    "numbers": tell_numbers,
    "went": tell_went,
    "run": tell_run,
    "ends": tell_ends,
    "over": tell_over,
    "box": tell_box,
    "rings": tell_rings,
    "lead": tell_lead,
    "still": tell_still,
    "gain": tell_gain,
    "drift": tell_drift,
    "meet": tell_meet,
}
# For each first word what stands behind it; behind that may be a list of words, of at least so many, or None.
KINDS = {
    "drop": (("net",), None),
    "nets": ((), None),
    "machines": ((), None),
    "show": (("net",), None),
    "same": (("net", "net"), None),
    "machine": (("new", "net"), None),
    "twin": (("new", "machine"), None),
    "turn": (("machine",), 1),
    "back": (("machine", "number"), None),
    "state": (("machine",), None),
    "numbers": (("machine",), None),
    "went": (("machine",), None),
    "run": (("net",), 0),
    "ends": (("net", "number"), 1),
    "over": (("net", "number"), 1),
    "box": (("net", "number", "number"), None),
    "rings": (("net", "number"), None),
    "lead": (("net", "number"), 0),
    "still": (("net",), None),
    "gain": (("net", "number"), None),
    "drift": (("net",), None),
    "meet": (("net", "net"), 1),
}


def check_name(text):
    if not 1 <= len(text) <= LONGEST_NAME or not all([sign in SMALL_LETTERS for sign in text]):
        raise NoLine("a name has one to eight small letters")


def read_number(text):
    number = whole_of(text)
    if number is None:
        raise NoLine("a whole number is due here")
    return number


def read_thing(kind, text):
    """The name or the number that a word of a line is."""
    if kind == "number":
        return read_number(text)
    check_name(text)
    return text


def read_things(kinds, least, words):
    """What the words behind the first one are."""
    tail = words[len(kinds):]
    if len(words) < len(kinds) or (tail and least is None) or (least is not None and len(tail) < least):
        raise NoLine("too few words, or too many")
    things = [read_thing(kind, word) for kind, word in zip(kinds, words)]
    if least is None:
        return things
    return [*things, [read_number(word) for word in tail]]


class Desk:
    """Nets and machines by their names; it is told lines, and answers each."""

    def __init__(self):
        self.net_by_name = {}
        self.machine_by_name = {}

    def check_standing(self, kinds, things):
        for kind, thing in zip(kinds, things):
            if kind == "net" and thing not in self.net_by_name:
                raise NoName(thing)
            if kind == "machine" and thing not in self.machine_by_name:
                raise NoName(thing)

    def put_net(self, words, text):
        if len(words) != 2 or words[0] != "net":
            raise NoLine("only the line of a new net has more lines behind it")
        check_name(words[1])
        self.net_by_name[words[1]] = read_net(text)
        return DONE

    def say(self, line):
        if not isinstance(line, str):
            raise NoLine("a line is a text")
        head, feed, text = line.partition("\n")
        words = head.split(" ")
        if feed:
            return self.put_net(words, text)
        if words[0] not in ANSWERS:
            raise NoLine("no line begins so")
        kinds, least = KINDS[words[0]]
        things = read_things(kinds, least, words[1:])
        self.check_standing(kinds, things)
        answer = ANSWERS[words[0]]
        return answer(self, things)

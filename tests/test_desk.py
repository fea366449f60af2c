"""Points 1 to 4 and 61 to 63: a desk, its lines, and what it refuses."""

import inspect
import unittest

from echobound import desk
from echobound.boxes import box
from echobound.builds import direct, freed
from echobound.desk import Desk
from echobound.errors import (BadNet, BadState, EchoError, NoLine, NoName, NoSeries, NoState, NoText, NoTurn, NoWords,
                              TooMany, TooSlow, Unfit)
from echobound.forms import Form
from echobound.machines import Machine, run
from echobound.meets import meet
from echobound.nets import Net
from echobound.reach import Reach
from echobound.rings import Rings
from echobound.stillness import stillness
from echobound.texts import show_fraction, show_net, show_way
from echobound.twins import drift, gain, matrices_of
from tests.helper import (Stranger, chance, check_interface, echo_net, enter_of, other_kinds, refusal, some_nets,
                          some_word)

FREE = freed(echo_net(), [4])
BARE = Net([Form(4), Form(3, 0, "half", "stop")], 0, [("in",), ("keep", 1, 0)], [], 1)
LOUD = Net([Form(8)], 0, [("in",), ("old", 0), ("times", 2, 0, 1), ("plus", 0, 2), ("keep", 0, 3)], [(0, 0, 4)], 4)
# For each first word what stands behind it: m a machine, n a net, x a new name, k a number, w one word or more, o none
# or more.
SHAPES = {"drop": "n", "nets": "", "machines": "", "show": "n", "same": "nn", "machine": "xn", "twin": "xm",
          "turn": "mw", "back": "mk", "state": "m", "numbers": "m", "went": "m", "run": "no", "ends": "nkw",
          "over": "nkw", "box": "nkk", "rings": "nk", "lead": "nko", "still": "n", "gain": "nk", "drift": "n",
          "meet": "nnw"}
NO_NAMES = ["", "A", "Net", "aB", "abcdefghi", "a1", "1", "0", "-1", "a-b", "a_b", "a.b", "a,", "~", "_", "a\nb", "a\n",
            "a\tb"]
NO_NUMBERS = ["", "a", "+1", "-0", "00", "01", "1.0", "1/2", "--1", "-", "1-", "1,", "0x1", "1e1", "1_0", "~", "1\n",
              "1" + "0" * 400, "-1" + "0" * 400]


def told_desk(*lines):
    """A desk that has the example's net by the name a, the same without ends by free, and a machine m of a."""
    one = Desk()
    for line in ["net a\n" + show_net(echo_net()), "net free\n" + show_net(FREE), "net bare\n" + show_net(BARE),
                 "net loud\n" + show_net(LOUD), "machine m a", *lines]:
        one.say(line)
    return one


def all_told(one):
    """All that a desk tells, without a deed."""
    lines = ["nets", "machines"]
    lines += [f"show {name}" for name in one.say("nets").split()]
    for name in one.say("machines").split():
        lines += [f"state {name}", f"numbers {name}", f"went {name}"]
    return [one.say(line) for line in lines]


class DeskCase(unittest.TestCase):
    def refused(self, one, kind, line):
        before = all_told(one)
        error = refusal(self, kind, one.say, line)
        self.assertEqual(type(refusal(self, kind, one.say, line=line)), type(error))
        self.assertEqual(all_told(one), before)
        return error


class NetsTest(DeskCase):
    def test_at_first_it_has_none(self):
        one = Desk()
        self.assertEqual((one.say("nets"), one.say("machines")), ("", ""))

    def test_net_show_same_and_drop(self):
        one = Desk()
        self.assertEqual(one.say("net b\n" + show_net(echo_net())), "ok")
        self.assertEqual(one.say(line="net a\n" + show_net(FREE)), "ok")
        self.assertEqual(one.say("nets"), "a b")
        self.assertEqual((one.say("show b"), one.say("show a")), (show_net(echo_net()), show_net(FREE)))
        self.assertEqual([one.say(f"same {x} {y}") for x, y in (("a", "a"), ("a", "b"), ("b", "a"), ("b", "b"))],
                         ["yes", "no", "no", "yes"])
        self.assertEqual(one.say("net c\n" + one.say("show b")), "ok")
        self.assertEqual((one.say("same c b"), one.say("same a c")), ("yes", "no"))
        self.assertEqual((one.say("drop b"), one.say("nets")), ("ok", "a c"))
        self.assertEqual(self.refused(one, NoName, "show b").name, "b")

    def test_a_name_put_anew(self):
        one = told_desk()
        self.assertEqual(one.say("net a\n" + show_net(BARE)), "ok")
        self.assertEqual((one.say("show a"), one.say("nets")), (show_net(BARE), "a bare free loud"))

    def test_names_of_one_and_of_eight_letters(self):
        one = Desk()
        names = ["a", "z", "abcdefgh", "zzzzzzzz", "net", "nets", "turn", "ok"]
        for name in names:
            self.assertEqual(one.say(f"net {name}\n" + show_net(BARE)), "ok")
            self.assertEqual(one.say(f"machine {name} {name}"), "ok")
        self.assertEqual(one.say("nets"), " ".join(sorted(names)))
        self.assertEqual(one.say("machines"), " ".join(sorted(names)))
        self.assertEqual(one.say("turn abcdefgh 3 -8"), "3 -4")
        self.assertEqual(one.say("went abcdefgh"), "2 1")
        self.assertEqual(one.say("went zzzzzzzz"), "")

    def test_what_makes_no_net(self):
        one = told_desk()
        lines = show_net(echo_net()).split("\n")
        self.assertEqual(self.refused(one, NoText, "net a\n").line, 1)
        self.assertEqual(self.refused(one, NoText, "net x\n").line, 1)
        self.assertEqual(self.refused(one, NoText, "net x\n\n" + "\n".join(lines)).line, 1)
        for many in range(1, len(lines)):
            self.assertEqual(self.refused(one, NoText, "net x\n" + "\n".join(lines[:many])).line, many + 1)
        self.assertEqual(self.refused(one, NoText, "net x\n" + "\n".join(lines) + "\n").line, len(lines) + 1)
        refused = self.refused(one, BadNet, "net a\n" + "\n".join(lines[:-1]) + "\nout 5")
        self.assertEqual((refused.part, refused.at), ("out", None))
        refused = self.refused(one, BadNet, "net x\n" + "\n".join(lines).replace("plus 0 2", "plus 0 9"))
        self.assertEqual((refused.part, refused.at), ("rows", 3))


class MachinesTest(DeskCase):
    def test_turn_state_numbers_went_and_back(self):
        one = told_desk()
        self.assertEqual((one.say("state m"), one.say("numbers m"), one.say("went m")), ("0", "", ""))
        self.assertEqual(one.say("turn m 5 1 0 0"), "5 5 4 3")
        self.assertEqual((one.say("state m"), one.say("numbers m"), one.say("went m")), ("3", "0 4 12 12 3", ""))
        self.assertEqual(one.say("turn m 127"), "-127")
        self.assertEqual(one.say("turn m 127 -128 -128"), "32 -104 50")
        self.assertEqual((one.say("went m"), one.say("state m")), ("5 4, 8 4", "50"))
        self.assertEqual(one.say("back m 1"), "ok")
        self.assertEqual((one.say("went m"), one.say("state m")), ("5 4", "-104"))
        self.assertEqual(one.say("back m 0"), "ok")
        self.assertEqual(one.say("state m"), "-104")
        self.assertEqual(one.say("back m 7"), "ok")
        self.assertEqual((one.say("state m"), one.say("numbers m"), one.say("went m")), ("0", "", ""))

    def test_a_turn_of_all_words_or_of_none(self):
        one = told_desk("turn m 7")
        for words, at in (("128", 0), ("1 128", 1), ("-129 5", 0), ("0 1 2 3 128 200", 4), ("1" + "0" * 399, 0)):
            self.assertEqual(self.refused(one, Unfit, f"turn m {words}").at, at)
        self.assertEqual((one.say("state m"), one.say("turn m 0")), ("7", "5"))

    def test_no_turn(self):
        one = told_desk("turn m 7 8 9")
        for many in ("4", "-1", "1000", "9" * 400):
            self.assertEqual(self.refused(one, NoTurn, f"back m {many}").many, 3)

    def test_a_machine_keeps_its_net(self):
        one = told_desk("turn m 100 100")
        before = all_told(one)[-3:]
        one.say("net a\n" + show_net(BARE))
        self.assertEqual([one.say(line) for line in ("state m", "numbers m", "went m")], before)
        self.assertEqual(one.say("turn m 0"), "-61")
        one.say("drop a")
        self.assertEqual((one.say("turn m 0"), one.say("back m 1"), one.say("state m")), ("-46", "ok", "-61"))
        self.assertEqual(self.refused(one, NoName, "machine q a").name, "a")
        self.assertEqual(self.refused(one, NoName, "run a 1").name, "a")

    def test_a_net_and_a_machine_of_one_name(self):
        one = told_desk("machine a free")
        self.assertEqual((one.say("nets"), one.say("machines")), ("a bare free loud", "a m"))
        self.assertEqual((one.say("turn a 127 127"), one.say("run a 127 127")), ("127 222", "127 -34"))
        one.say("drop a")
        self.assertEqual(one.say("state a"), "222")

    def test_a_machine_put_anew(self):
        one = told_desk("turn m 50", "machine m free")
        self.assertEqual((one.say("state m"), one.say("numbers m"), one.say("machines")), ("0", "", "m"))
        one.say("twin m m")
        self.assertEqual(one.say("turn m 127 127"), "127 222")

    def test_twins_go_their_own_way(self):
        one = told_desk("turn m 100 100", "twin t m")
        told = [one.say(line) for line in ("state m", "numbers m", "went m")]
        self.assertEqual([one.say(line) for line in ("state t", "numbers t", "went t")], told)
        self.assertEqual(one.say("turn t 1 2"), "-60 -43")
        self.assertEqual([one.say(line) for line in ("state m", "numbers m", "went m")], told)
        one.say("back m 2")
        self.assertEqual((one.say("state m"), one.say("state t"), one.say("went t")), ("0", "-43", "2 4"))
        one.say("back t 3")
        self.assertEqual((one.say("state t"), one.say("went t")), ("100", ""))
        # A twin may stand in the place of another one, and of none.
        one.say("twin m t")
        self.assertEqual((one.say("state m"), one.say("machines")), ("100", "m t"))

    def test_no_holds(self):
        one = told_desk("machine b bare")
        self.assertEqual((one.say("state b"), one.say("turn b 5"), one.say("state b"), one.say("numbers b")),
                         ("", "3", "", "5 3"))


class AnswersTest(DeskCase):
    def test_by_hand(self):
        one = told_desk()
        for line, answer in (("run a", ""), ("run a 5 1 0 0", "5 5 4 3"), ("run a 127 127", "127 -34"),
                             ("ends a 4 0 1 -1", "-2 by -1 -1, 3 by 1 1 1"), ("ends a 0 5", "5 by 5, 5 by 5"),
                             ("over a 4 0 1 -1", "never"), ("over a 4 100", "by 100 100"), ("over a 0 100", "never"),
                             ("box a -1 1", "4\nhold -2 3\nrow -1 1\nrow -2 3\nrow -6 9\nrow -10 13\nrow -2 3"),
                             ("box bare -8 7", "1\nrow -8 7\nrow -4 3"),
                             ("rings a 0", "-1\n0\n1\n2"), ("rings a 50", "-111, -33, 25, 69, 102, 127"),
                             ("rings bare 3", ""), ("lead a 0 -128", "15 0 0"), ("lead a 50 25", "0 0 2"),
                             ("lead bare 7", "0 0 0"), ("still a", "still"), ("still loud", "loud"),
                             ("still bare", "still"), ("gain a 2", "7/4 557/128"), ("gain bare 1", "1 1"),
                             ("drift a", "143/64"), ("drift bare", "0"), ("meet a free 0 1 -1", "alike"),
                             ("meet a free 50", "parted by 50 50 50 50"), ("meet a a 1", "alike")):
            self.assertEqual(one.say(line), answer, line)

    def test_a_ring(self):
        net = Net([Form(8)], 0, [("in",), ("old", 0), ("plus", 0, 1), ("keep", 0, 2)], [(0, 0, 3)], 3)
        one = told_desk("net sum\n" + show_net(net))
        self.assertEqual(one.say("still sum"), "ring")
        self.assertEqual(self.refused(one, TooSlow, "drift sum").many, 60)
        self.assertEqual(self.refused(one, TooSlow, "gain sum 3").many, 60)

    def test_rings_of_two_holds(self):
        net = direct([1], [0, 1], 0, Form(2), Form(2))
        one = told_desk("net two\n" + show_net(net))
        rings = Rings(net, 1).rings()
        self.assertGreater(len(rings), 1)
        self.assertEqual(one.say("rings two 1"),
                         "\n".join(", ".join(" ".join(map(str, state)) for state in ring) for ring in rings))
        self.assertEqual(one.say("lead two 1 -2 1"), show_way(Rings(net, 1).lead((-2, 1))))

    def answers(self, net, other, words, row):
        """Lines of nets by the names x and y, each with what has to be answered."""
        given = show_way(words)
        low, high = min(words), max(words)
        told = {"run x " + given: lambda: show_way(run(net, words)), "run x": lambda: "",
                "still x": lambda: stillness(matrices_of(net)[0])[0],
                "drift y": lambda: show_fraction(drift(other)),
                f"rings x {words[0]}": lambda: "\n".join(", ".join(show_way(state) for state in ring)
                                                         for ring in Rings(net, words[0]).rings()),
                f"lead x {words[0]} {show_way(net.start())}".rstrip():
                    lambda: show_way(Rings(net, words[0]).lead(net.start())),
                "gain x 3": lambda: " ".join(map(show_fraction, gain(net, 3))), "show y": lambda: show_net(other)}

        def ends():
            reach = Reach(net, words)
            ends = [reach.least(row), reach.greatest(row)]
            return ", ".join(f"{number} by {show_way(way)}" for number, way in ends)

        def over():
            way = Reach(net, words).way_over(row)
            return "never" if way is None else "by " + show_way(way)

        def boxed():
            _, holds, rows, rounds = box(net, low, high)
            return "\n".join([str(rounds), *["hold " + show_way(stretch) for stretch in holds],
                              *["row " + show_way(stretch) for stretch in rows]])

        def met():
            answer = meet(net, other, words)
            return "alike" if answer[0] == "alike" else "parted by " + show_way(answer[1])

        told.update({f"ends x {row} {given}": ends, f"over x {row} {given}": over, f"box x {low} {high}": boxed,
                     f"meet x y {given}": met})
        return told

    def test_what_the_functions_tell(self):
        dice = chance(631)
        refusals = 0
        nets = some_nets(632, 25, (0, 1, 2), (2, 3, 4, 8), (-1, 0, 2), 8)
        for net, other in zip(nets, nets[1:]):
            words = list({some_word(dice, enter_of(net)): True for _ in range(3)})
            one = told_desk("net x\n" + show_net(net), "net y\n" + show_net(other))
            for line, answer in self.answers(net, other, words, dice.randrange(len(net))).items():
                try:
                    wanted = answer()
                except EchoError as refused:
                    refusals += 1
                    error = self.refused(one, type(refused), line)
                    self.assertEqual(vars(error), vars(refused))
                else:
                    self.assertEqual((one.say(line), one.say(line)), (wanted, wanted))
        self.assertGreater(refusals, 10)

    def test_machines_as_machines_do(self):
        dice = chance(633)
        for net in some_nets(634, 15, (0, 1, 2, 6), (2, 3, 8, None), (-1, 0, 2), 8):
            one, machine = told_desk("net x\n" + show_net(net), "machine x x"), Machine(net)
            for _ in range(12):
                if machine.turns() and dice.random() < 0.3:
                    many = dice.randint(0, machine.turns())
                    machine.back(many)
                    self.assertEqual(one.say(f"back x {many}"), "ok")
                else:
                    words = [some_word(dice, enter_of(net)) for _ in range(dice.randint(1, 3))]
                    self.assertEqual(one.say(f"turn x {show_way(words)}"),
                                     show_way([machine.turn(word) for word in words]))
                self.assertEqual(one.say("state x"), show_way(machine.state()))
                self.assertEqual(one.say("numbers x"), show_way(machine.numbers()))
                self.assertEqual(one.say("went x"), ", ".join(f"{turn} {row}" for turn, row in machine.went()))


class RefusedTest(DeskCase):
    def good_things(self, shape):
        return [{"m": "m", "n": "a", "x": "new", "k": "1", "w": "1", "o": "1"}[kind] for kind in shape]

    def test_what_is_no_text(self):
        one = told_desk()
        for thing in [*other_kinds(), 0, 1, b"nets", ["nets"], ("nets",), Stranger(), Form(), echo_net(), None]:
            self.refused(one, NoLine, thing)

    def test_other_words(self):
        one = told_desk()
        for line in ("", " ", "net", "Nets", "NETS", "netss", "nets ", " nets", "nets  ", "nets\n", "\nnets", "nets a",
                     "machines m", "machines ", "names", "ok", "1", "a", "show", "list", "help", "twins t m",
                     "turns m 1",
                     "overs a 4 1", "box", "rings", "~", "back", "closed a 1", "least a 1", "same", "nets\nnets",
                     "state\nm", "show a\n", "show\na", "turn m 1\n", "turn m 1\n2", "\n", "\n\n"):
            self.refused(one, NoLine, line)

    def test_net_without_a_line_feed(self):
        one = told_desk()
        text = show_net(BARE)
        for line in ("net", "net ", "net x", "net a", "net x form 4.0 half wrap", "net x " + text, "net\n" + text,
                     "net \n" + text, "net  x\n" + text, "net x \n" + text, " net x\n" + text, "net x y\n" + text,
                     "net X\n" + text, "net abcdefghi\n" + text, "net 1\n" + text, "nets x\n" + text, "Net x\n" + text,
                     "show x\n" + text, "x\n" + text, "machine x a\n" + text, text):
            self.refused(one, NoLine, line)

    def test_too_few_and_too_many(self):
        one = told_desk()
        for word, shape in SHAPES.items():
            good = self.good_things(shape)
            for many in range(len(good)):
                if not (shape[-1] == "o" and many == len(good) - 1):
                    self.refused(one, NoLine, " ".join([word, *good[:many]]))
            if not shape or shape[-1] not in "wo":
                self.refused(one, NoLine, " ".join([word, *good, "1"]))
                self.refused(one, NoLine, " ".join([word, *good, "a"]))

    def test_names_and_numbers_that_are_none(self):
        one = told_desk()
        for word, shape in SHAPES.items():
            good = self.good_things(shape)
            for at, kind in enumerate(shape):
                for thing in NO_NAMES if kind in "mnx" else NO_NUMBERS:
                    self.refused(one, NoLine, " ".join([word, *good[:at], thing, *good[at + 1:]]))
            if shape and shape[-1] in "wo":
                for thing in NO_NUMBERS:
                    self.refused(one, NoLine, " ".join([word, *good, thing]))
                    self.refused(one, NoLine, " ".join([word, *good, thing, "1"]))

    def test_blanks(self):
        one = told_desk()
        for word, shape in SHAPES.items():
            parts = [word, *self.good_things(shape)]
            line = " ".join(parts)
            self.refused(one, NoLine, " " + line)
            self.refused(one, NoLine, line + " ")
            for at in range(1, len(parts)):
                self.refused(one, NoLine, " ".join(parts[:at]) + "  " + " ".join(parts[at:]))
                self.refused(one, NoLine, " ".join(parts[:at]) + "\t" + " ".join(parts[at:]))

    def test_no_name_is_told_from_the_left(self):
        one = told_desk()
        for word, shape in SHAPES.items():
            good = self.good_things(shape)
            for at, kind in enumerate(shape):
                if kind in "mn":
                    # A net's name where a machine is asked for, and the other way about, is none either.
                    for name in ("nobody", "z", "free" if kind == "m" else "m"):
                        line = " ".join([word, *good[:at], name, *good[at + 1:]])
                        self.assertEqual(self.refused(one, NoName, line).name, name)
        self.assertEqual(self.refused(one, NoName, "same x y").name, "x")
        self.assertEqual(self.refused(one, NoName, "same a y").name, "y")
        self.assertEqual(self.refused(one, NoName, "meet x y 1").name, "x")
        self.assertEqual(self.refused(one, NoName, "machine x y").name, "y")
        self.assertEqual(self.refused(one, NoName, "twin x y").name, "y")

    def test_no_line_ahead_of_no_name(self):
        one = told_desk()
        for line in ("same x Y", "meet x y", "meet x y a", "turn x", "turn x a", "back x", "back x a", "run x a",
                     "box x 1", "box x 1 a", "lead x a", "gain x 01", "show x y", "machine X nobody",
                     "ends x 1", "over x a 1", "twin x2 nobody", "rings x +1"):
            self.refused(one, NoLine, line)

    def test_no_name_ahead_of_what_is_asked_for(self):
        one = told_desk()
        for line in ("turn x 999", "back x -1", "run x 999", "ends x 99 999", "over x 99 1 1", "box x 1 0",
                     "rings x 999",
                     "lead x 999 1 2 3", "gain x 0", "meet a x 999", "meet x a 999"):
            self.assertEqual(self.refused(one, NoName, line).name, "x")

    def test_as_its_point_tells(self):
        one = told_desk()
        for line, kind, fields in (("run a 1 128", Unfit, {"at": 1}), ("run a -129 128", Unfit, {"at": 0}),
                                   ("ends a 99 999", NoWords, {}), ("ends a 99 1 1", NoWords, {}),
                                   ("ends a 99 1", NoState, {}), ("ends a -1 1", NoState, {}),
                                   ("ends a 4 0 1 2 3 4 5 6 7 8 9", NoWords, {}),
                                   ("over a 5 1", NoState, {}), ("over a 99 1 1", NoWords, {}),
                                   ("ends loud 99 0 1 2 3 4", NoState, {}),
                                   ("box a 1 0", NoWords, {}), ("box a 0 128", NoWords, {}),
                                   ("rings a 128", Unfit, {"at": 0}), ("rings free 0", TooMany, {"many": 300}),
                                   ("lead a 128 0 0", Unfit, {"at": 0}), ("lead free 0 0 0", TooMany, {"many": 300}),
                                   ("lead a 0", BadState, {}), ("lead a 0 128", BadState, {}),
                                   ("lead a 0 0 0", BadState, {}),
                                   ("lead bare 0 0", BadState, {}), ("gain a 0", NoSeries, {}),
                                   ("gain a 61", NoSeries, {}),
                                   ("gain a -1", NoSeries, {}), ("gain loud 0", NoSeries, {}),
                                   ("gain loud 1", TooSlow, {"many": 60}), ("drift loud", TooSlow, {"many": 60}),
                                   ("meet a free 128", NoWords, {}), ("meet a bare 8", NoWords, {}),
                                   ("meet a free 1 1", NoWords, {}), ("turn m 1 2 999", Unfit, {"at": 2})):
            error = self.refused(one, kind, line)
            self.assertEqual(vars(error), fields, line)

    def test_too_many(self):
        net = Net([Form(10)], 0, [("in",), ("old", 0), ("plus", 0, 1), ("keep", 0, 2)], [(0, 0, 3)], 3)
        free = freed(net, [3])
        one = told_desk("net x\n" + show_net(net), "net y\n" + show_net(free))
        for line in ("ends x 99 1", "over x 99 1", "ends y 3 1", "rings x 0", "meet x x 1", "lead x 0 9999"):
            self.assertEqual(self.refused(one, TooMany, line).many, 300)
        self.assertEqual(self.refused(one, TooMany, "box y 0 1").many, 20)
        self.assertEqual(one.say("box x 0 1").split("\n")[1], "hold -512 511")

    def test_numbers_of_four_hundred_figures(self):
        word = "9" * 400
        one = told_desk("net y\nform free.0 half wrap\nenters 0\nin\ntimes 10 0 0\nkeep 0 1\nout 2", "machine y y")
        self.assertEqual(one.say(f"turn y {word} -{word}"), f"{word}0 -{word}0")
        self.assertEqual(one.say("numbers y"), f"-{word} -{word}0 -{word}0")
        self.refused(one, NoLine, f"turn y {word}0")
        self.refused(one, NoLine, f"turn y -{word}0")
        self.refused(one, NoLine, f"turn nobody 1 {word}0")

    def test_only_the_good_deeds_count(self):
        good = ["net x\n" + show_net(LOUD), "machine n x", "turn n 3 4", "net a\n" + show_net(FREE), "twin o n",
                "turn o 5", "back n 1", "machine p a", "turn p 127 127", "drop x", "turn n 9", "twin n p", "back p 1"]
        bad = ["net x\n", "net x\nform", "turn n 1 999", "back n 99", "drop nobody", "machine n nobody",
               "twin n nobody",
               "turn m", "drop a b", "net q", "twin o", "run a 999999 a", "ends a 99 0", "rings free 0", "lead a 0 1 2",
               "machine M a", "turn m 128", "back m 1", None, "", "drop m", "turn a 1"]
        one, other = told_desk(), told_desk()
        for line in good:
            self.assertEqual(one.say(line), other.say(line))
            for wrong in bad:
                with self.assertRaises(EchoError):
                    other.say(wrong)
            self.assertEqual(all_told(one), all_told(other))

    def test_two_desks(self):
        one, other = told_desk(), Desk()
        self.assertEqual((other.say("nets"), other.say("machines")), ("", ""))
        other.say("net a\n" + show_net(BARE))
        self.assertEqual(one.say("show a"), show_net(echo_net()))

    def test_asking_changes_nothing(self):
        one = told_desk("turn m 100 100")
        before = all_told(one)
        asking = ["nets", "machines", "show a", "same a free", "state m", "numbers m", "went m", "run a 1 2",
                  "ends a 4 0 1", "over a 4 1", "box a 0 1", "rings a 0", "lead a 0 5", "still a", "gain a 3",
                  "drift a",
                  "meet a free 1"]
        first = [one.say(line) for line in asking]
        self.assertEqual([one.say(line) for line in asking], first)
        self.assertEqual([one.say(line) for line in reversed(asking)], first[::-1])
        self.assertEqual(all_told(one), before)
        for line in asking:
            self.assertIs(type(one.say(line)), str)


class InterfaceTest(unittest.TestCase):
    def test_names_and_arguments(self):
        check_interface(self, desk, {"Desk": "()"})
        self.assertEqual(str(inspect.signature(vars(Desk)["say"])), "(self, line)")


if __name__ == "__main__":
    unittest.main()

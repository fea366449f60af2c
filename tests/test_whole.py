"""Points 1 to 4 over the whole program: arguments by place and by name, lists of the asker's own, nothing changed."""

import copy
import importlib
import inspect
import itertools
import unittest

from echobound import errors
from echobound.builds import freed
from echobound.classes import Least
from echobound.desk import Desk
from echobound.errors import EchoError
from echobound.falling import AllRings
from echobound.forms import Form
from echobound.machines import Machine, run
from echobound.meets import meet
from echobound.reach import Reach
from echobound.rings import Rings
from echobound.stillness import is_paper, stillness
from echobound.texts import show_net
from echobound.twins import drift, exact_run, matrices_of
from tests.helper import asked, chance, echo_net, enter_of, lists_within, some_nets, some_word
from tests.test_language import INTERFACE

ONE, HALF, THIRD = (1, 1), (1, 2), (1, 3)
SQUARE = [[HALF, THIRD], [(0, 1), (-1, 4)]]
SYMMETRIC = [[(2, 1), HALF], [HALF, (3, 1)]]
NET = echo_net()
FREE = freed(NET, [4])
FORM = Form(8, 4, "even", "stop")


def turned_machine():
    machine = Machine(NET)
    for word in (127, 127, 5):
        machine.turn(word)
    return machine


def told_desk():
    desk = Desk()
    desk.say("net a\n" + show_net(NET))
    return desk


# For each file the functions and classes with what is handed in, all arguments, defaults among them.
CALLS = {
    "fractions": {"is_whole": [5], "is_fraction": [HALF], "fraction": [6, -4], "plus": [HALF, THIRD],
                  "minus": [HALF, THIRD], "times": [HALF, (-2, 3)], "divided": [HALF, THIRD], "size_of": [(-2, 3)],
                  "two_to": [-3], "under": [THIRD, HALF]},
    "rounding": {"rounded": [(-5, 2), "far"]},
    "forms": {"Form": [4, 1, "down", "stop"]},
    "matrices": {"is_matrix": [SQUARE], "shape": [SQUARE], "unit": [3], "mirrored": [SQUARE],
                 "sum_of": [SQUARE, SYMMETRIC], "product": [SQUARE, SYMMETRIC], "scaled": [SQUARE, THIRD],
                 "led": [SQUARE, [ONE, HALF]], "solved": [SQUARE, [ONE, HALF]], "signs": [SYMMETRIC]},
    "series": {"product_of": [[ONE, HALF], [THIRD]], "response": [[ONE], [ONE, HALF], 5],
               "answered": [[ONE], [ONE, HALF], [ONE, THIRD]], "parted": [[ONE], [ONE, HALF], [ONE, THIRD], [ONE]]},
    "ladder": {"ladder": [[ONE, HALF, (1, 4)]], "raised": [[ONE], [THIRD, HALF]]},
    "stillness": {"weighed": [SQUARE, SYMMETRIC], "stillness": [SQUARE], "is_paper": [SQUARE, stillness(SQUARE)],
                  "energy": [SQUARE, [ONE, HALF], [HALF, THIRD], THIRD], "halving": [SQUARE, 7],
                  "worth": [SYMMETRIC, [HALF, THIRD]]},
    "nets": {"Net": [NET.forms(), 0, NET.rows(), NET.holds(), 4]},
    "machines": {"turned": [NET, (5,), 1], "overs": [NET, [100, 100, 300, 400, -81]], "run": [NET, [5, 1], (3,)],
                 "Machine": [NET, (7,)]},
    "twins": {"exact_run": [NET, [5, 1], (3,)], "slack_of": [NET, 4], "drift": [NET], "errors_of": [NET],
              "matrices_of": [NET], "transfer": [NET], "gain": [NET, 3]},
    "builds": {"direct": [[3, 1], [-2], 2, Form(8), Form(6, 1)], "transposed": [[3, 1], [-2], 2, Form(8), Form(6, 1)],
               "rungs": [[1, 2], 3, Form(8), Form(6, 1)], "chain": [NET, FREE], "beside": [NET, NET],
               "freed": [NET, [4]]},
    "spelling": {"spelled": [7], "without_times": [NET]},
    "reach": {"Reach": [NET, [0, 1, -1], 50], "is_closed": [NET, [0], [(0,)]]},
    "boxes": {"box": [NET, -1, 2, 5], "is_box": [NET, -1, 1, [(-2, 3)]], "may_over": [NET, -1, 1, [(-2, 3)]]},
    "rings": {"Rings": [NET, 5, 256]},
    "falling": {"AllRings": [FREE, 5, 400]},
    "meets": {"meet": [NET, FREE, [50, 0], 100], "is_meeting": [NET, FREE, [0], [((0,), (0,))]]},
    "classes": {"Least": [NET, [0, 1, -1], 6]},
    "taps": {"extremes": [[1, -2], -5, 7], "guard": [[1, -2], Form(4)]},
    "choices": {"fitted": [[HALF, THIRD], 1], "nearest_still": [HALF, THIRD, 3]},
    "shifts": {"chosen": [[[ONE, HALF], [(5, 1)]], 3, 2], "best_order": [[[ONE, HALF], [(5, 1)]], 3, 2]},
    "texts": {"show_fraction": [HALF], "show_way": [[1, -2]], "show_form": [FORM], "show_net": [NET],
              "read_fraction": ["-3/4"], "read_way": ["1 -2"], "read_form": ["8.4 even stop"],
              "read_net": [show_net(NET)]},
    "desk": {"Desk": []},
}
# For each class how one is made, and its methods with what is handed in.
METHODS = {
    "Form": (lambda: FORM, {"least": [], "greatest": [], "has": [5], "step": [], "slack": [], "value": [5],
                            "kept": [(100, 3)], "bits": [-5], "word_of": ["11111011"], "added": [[100, 100, -5]]}),
    "Net": (lambda: NET, {"forms": [], "rows": [], "holds": [], "points": [], "keeps": [], "enters": [], "out": [],
                          "start": []}),
    "Machine": (turned_machine, {"turn": [5], "turns": [], "state": [], "numbers": [], "overs": [], "went": [],
                                 "back": [2], "twin": []}),
    "Reach": (lambda: Reach(NET, [0, 1, -1]), {"states": [], "words": [], "way_to": [(3,)], "nexts": [(3,)],
                                               "least": [4], "greatest": [4], "way_over": [4]}),
    "Rings": (lambda: Rings(NET, 50), {"states": [], "rings": [], "lead": [(5,)], "outs": [0], "overs": [0],
                                       "still": [], "quiet": [], "echo": [4]}),
    "AllRings": (lambda: AllRings(FREE, 5), {"grounds": [], "lazy": [], "rings": [], "outs": [0], "still": [],
                                             "quiet": [], "echo": [4], "lead": [(999,), 500]}),
    "Least": (lambda: Least(NET, [0, 1, -1]), {"classes": [], "class_of": [(3,)], "rounds": [], "table": [],
                                               "way": [(0,), (3,)]}),
    "Desk": (told_desk, {"say": ["run a 5 1"]}),
}
# The parts of an object of a class by which two are told apart.
PARTS = {"Machine": ("state", "turns", "numbers", "overs", "went"), "Reach": ("states", "words"),
         "Rings": ("states", "rings"), "AllRings": ("grounds", "lazy", "rings"),
         "Least": ("classes", "table", "rounds")}


def plain(thing):
    """What a thing tells of itself, so that two can be compared."""
    name = type(thing).__name__
    if name == "Desk":
        return [thing.say(line) for line in ("nets", "machines")]
    return [getattr(thing, part)() for part in PARTS[name]] if name in PARTS else thing


def named_ways(call, given):
    """Calls with what is handed in: by place, by name in each of some orders, and by both."""
    names = list(inspect.signature(call).parameters)[:len(given)]
    pairs = list(zip(names, given))
    orders = [pairs, pairs[::-1], *itertools.islice(itertools.permutations(pairs), 6)]
    ways = [lambda: call(*given)]
    ways += [lambda order=order: call(**dict(order)) for order in orders]
    ways += [lambda at=at: call(*given[:at], **dict(pairs[:at - 1:-1])) for at in range(1, len(pairs))]
    return ways


class ArgumentsTest(unittest.TestCase):
    def test_every_name_of_the_interface_is_here(self):
        self.assertEqual({f"{name}.py": sorted(calls) for name, calls in CALLS.items()},
                         {name: sorted(names) for name, names in INTERFACE.items()})
        for name, (made, methods) in METHODS.items():
            # Each method that is listed for a class is defined in that class itself.
            self.assertEqual([one for one in methods if not inspect.isfunction(vars(type(made())).get(one))], [])

    def test_functions_and_classes(self):
        for file, calls in CALLS.items():
            module = importlib.import_module(f"echobound.{file}")
            for name, given in calls.items():
                call = getattr(module, name)
                self.assertEqual(len(inspect.signature(call).parameters), len(given), name)
                before = copy.deepcopy(given)
                told = [plain(way()) for way in named_ways(call, given)]
                for one in told[1:]:
                    self.assertTrue(one == told[0], (file, name))
                self.assertTrue(given == before, (file, name))

    def test_methods(self):
        for name, (made, methods) in METHODS.items():
            for method, given in methods.items():
                signature = inspect.signature(getattr(made(), method))
                self.assertEqual(len(signature.parameters), len(given), (name, method))
                told = []
                for way in range(len(named_ways(getattr(made(), method), given))):
                    one = made()
                    answer = named_ways(getattr(one, method), given)[way]()
                    told.append((plain(answer), plain(one)))
                for each in told[1:]:
                    self.assertTrue(each == told[0], (name, method))

    def test_defaults_left_out(self):
        wanted = {"fractions.fraction": (1,), "rounding.rounded": ("half",), "forms.Form": (None, 0, "half", "wrap"),
                  "stillness.halving": (60,), "machines.run": (None,), "machines.Machine": (None,),
                  "twins.exact_run": (None,), "reach.Reach": (300,), "boxes.box": (20,), "rings.Rings": (0, 300),
                  "falling.AllRings": (0, 600), "meets.meet": (300,), "classes.Least": (60,)}
        for file, calls in CALLS.items():
            module = importlib.import_module(f"echobound.{file}")
            for name in calls:
                found = inspect.signature(getattr(module, name)).parameters.values()
                defaults = tuple(one.default for one in found if one.default is not inspect.Parameter.empty)
                self.assertEqual(defaults, wanted.get(f"{file}.{name}", ()), (file, name))


class OwnListsTest(unittest.TestCase):
    def test_functions(self):
        for file, calls in CALLS.items():
            module = importlib.import_module(f"echobound.{file}")
            for name, given in calls.items():
                if name[0].islower():
                    asked(self, getattr(module, name), *given)

    def test_methods_that_ask(self):
        for name, (made, methods) in METHODS.items():
            one = made()
            for method, given in methods.items():
                if (name, method) not in (("Machine", "turn"), ("Machine", "back"), ("Machine", "twin")):
                    asked(self, getattr(one, method), *given)

    def test_what_is_done_to_a_list_behind_the_call(self):
        for file, calls in CALLS.items():
            module = importlib.import_module(f"echobound.{file}")
            for name, given in calls.items():
                mine = copy.deepcopy(given)
                told = getattr(module, name)(*mine)
                before = copy.deepcopy(plain(told))
                for part in lists_within(mine):
                    part.clear()
                    part.append("spoiled")
                self.assertTrue(plain(told) == before, (file, name))
                self.assertTrue(plain(told) == plain(getattr(module, name)(*given)), (file, name))


class ErrorsTest(unittest.TestCase):
    def test_each_stands_straight_under_echo_error(self):
        self.assertEqual(EchoError.__bases__, (ArithmeticError,))
        found = [one for one in vars(errors).values() if inspect.isclass(one) and one is not EchoError]
        self.assertEqual(len(found), 18)
        for one in found:
            self.assertEqual(one.__bases__, (EchoError,))


class PromiseTest(unittest.TestCase):
    """Point 3, put together: what is told of nets holds for runs that are long."""

    def test_reach_rings_and_boxes_of_runs(self):
        dice = chance(31)
        for net in some_nets(32, 12, (1, 2), (2, 3, 4), (0, 1), 8):
            words = list({some_word(dice, enter_of(net)): True for _ in range(3)})
            reach = Reach(net, words)
            row = [dice.choice(words) for _ in range(150)]
            machine = Machine(net)
            for word in row:
                machine.turn(word)
                for at, number in enumerate(machine.numbers()):
                    self.assertTrue(reach.least(at)[0] <= number <= reach.greatest(at)[0])
            for turn, at in machine.went():
                self.assertIsNotNone(reach.way_over(at))
            answer = meet(net, net, words, 600)
            self.assertEqual([one for one, other in answer[1]], reach.states())
            rings = Rings(net, words[0])
            turns, ring, place = rings.lead(machine.state())
            outs = rings.outs(ring)
            tail = run(net, [words[0]] * (turns + len(outs)), machine.state())[turns:]
            self.assertEqual(tail, outs[place:] + outs[:place])

    def test_drift_and_papers(self):
        dice = chance(33)
        kept = 0
        for net in some_nets(34, 40, (0, 1, 2), (16, None), (0, 1, 3), 8):
            paper = stillness(matrices_of(net)[0])
            self.assertTrue(is_paper(matrices_of(net)[0], paper))
            if paper[0] != "still":
                continue
            words = [some_word(dice, enter_of(net), 9) for _ in range(30)]
            machine = Machine(net)
            told = [machine.turn(word) for word in words]
            if not machine.went():
                kept += 1
                most = drift(net)
                point = net.points()[net.out()]
                for number, (top, bottom) in zip(told, exact_run(net, words)):
                    off = abs(number * bottom * 2 ** max(-point, 0) - top * 2 ** max(point, 0))
                    self.assertLessEqual(off * most[1], most[0] * bottom * 2 ** max(point, 0))
        self.assertGreater(kept, 10)


if __name__ == "__main__":
    unittest.main()

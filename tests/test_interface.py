"""[2], [3] and [42]: the names, the arguments and the places of the interface."""

import importlib
import inspect
import types
import unittest

from leastrooms.beats import Beats
from leastrooms.changes import Draft
from leastrooms.console import Console
from leastrooms.courses import Course
from leastrooms.desks import Desk
from leastrooms.engine import Engine
from leastrooms.formulas import formulas
from leastrooms.growing import Policy, grow
from leastrooms.lines import Line
from leastrooms.moments import begin
from leastrooms.nets import Net
from leastrooms.questions import Ends, Enough, Holds, Question
from leastrooms.rooms import Rooms
from leastrooms.rows import Row, forever, send, take
from leastrooms.runs import run

FUNCTIONS = {
    "counts": {"is_count": "(thing)", "rounds": "(count, n)", "format_count": "(count)", "parse_count": "(text)"},
    "rows": {
        "send": "(channel, k=1)", "take": "(channel, k=1)", "work": "(time)", "loop": "(count, row)", "forever": "(row)",
        "channels_of": "(row)", "messages": "(row, n)",
    },
    "rooms": {"least_possible": "(net)", "without_limit": "(net)"},
    "moments": {"begin": "(net, n, rooms)"},
    "ends": {
        "steps_by_turns": "(moment)", "end_of": "(moment, most=10000)", "lost": "(moment, movers=())",
        "is_knot": "(moment, thing, movers=())", "knots": "(moment, movers=())",
        "corner_of": "(moment, knot, movers=())",
    },
    "courses": {"follow": "(moment, course)", "movers_of": "(course)"},
    "runs": {"run": "(net, n, rooms)"},
    "corners": {
        "is_enough": "(net, n, rooms)", "least_rooms": "(net, n)", "corners": "(net, n)", "why_not": "(net, n, rooms)",
        "undercut": "(net, n, rooms)", "cheapest": "(net, n, prices)", "least_above": "(net, thing)",
        "greatest_below": "(net, thing)",
    },
    "papers": {
        "vector_of": "(net, rooms)", "rooms_of": "(net, vector)", "enough_paper": "(net, n, rooms)",
        "stuck_paper": "(net, n, rooms)", "is_enough_paper": "(net, n, thing)", "is_stuck_paper": "(net, n, thing)",
        "waits_in": "(net, n, paper)", "certificate": "(net, n)", "judge": "(net, n, thing)",
    },
    "lines": {"paper_at": "(paper, m)", "is_lined": "(net, first, step, thing)"},
    "formulas": {"formulas": "(net)", "judge_lines": "(net, thing)"},
    "growing": {
        "grow": "(net, n, rooms, policy)", "cost_of": "(rooms, prices)", "regret": "(net, n, prices, policy)",
        "regrets": "(net, n, prices)",
    },
    "beats": {
        "rounds_in": "(net)", "events_in": "(net)", "is_as_fast": "(one, other)", "pace_paper": "(beats)",
        "is_pace_paper": "(beats, thing)",
    },
    "trades": {
        "fastest": "(net)", "trades": "(net)", "pace_at": "(net, rooms)", "best_within": "(net, total)",
        "room_for": "(net, pace)",
    },
    "changes": {
        "is_change": "(thing)", "cut": "(row, n, steps)", "steps_in_row": "(row, n)", "fates": "(net, n, rooms)",
        "fates_after": "(net, n, rooms, process, steps)", "difference": "(net, other, n)",
    },
    "engine": {"tried": "(engine, processes, keep=True)", "judge_record": "(engine, record)"},
    "journals": {
        "write_journal": "(entries)", "read_journal": "(text)", "recover": "(text)", "resume": "(engine, text)",
    },
    "texts": {"parse_row": "(text)"},
    "desks": {"repair": "(desk, prices)", "write_plan": "(events)", "read_plan": "(text)"},
    "questions": {"when": "(question, desk, events)"},
}
CLASSES = {
    "rows": {"Row": ("(parts=())", ["__add__", "__mul__", "__eq__", "__str__"])},
    "nets": {"Net": ("(programs, first=None, stores=None)", [
        "row", "sender", "taker", "first", "store_of", "channels_in", "least_room", "__eq__",
    ])},
    "courses": {"Course": ("(items=())", ["__add__", "__mul__", "steps", "__eq__"])},
    "lines": {"Line": ("(at_zero, slope=0)", ["__call__", "__add__", "__sub__", "__mul__", "__eq__", "__str__", "through"])},
    "growing": {
        "Policy": ("()", ["__call__", "rank"]), "Narrow": ("()", ["__call__", "rank"]),
        "Wide": ("()", ["__call__", "rank"]), "Cheap": ("(prices)", ["__call__", "rank"]),
    },
    "beats": {"Beats": ("(net, rooms)", ["begins"])},
    "changes": {"Draft": ("(net)", ["__rshift__"])},
    "engine": {"Engine": ("(net, n, rooms, seeds=None, fold=None)", [
        "held", "stream", "waiting", "step", "play", "copy", "trial",
    ])},
    "desks": {"Desk": ("(net, n, rooms)", ["works", "least", "lacking", "do", "do_all"])},
    "questions": {
        "Question": ("()", ["__call__", "__and__", "__or__", "__invert__"]),
        "Enough": ("()", ["__call__", "__and__", "__or__", "__invert__"]),
        "Holds": ("(store, k)", ["__call__", "__and__", "__or__", "__invert__"]),
        "Ends": ("(process, fate)", ["__call__", "__and__", "__or__", "__invert__"]),
    },
    "console": {"Console": ("()", ["run"])},
    "rooms": {"Rooms": ("(values)", ["__getitem__", "pairs", "raised", "__or__", "__and__", "fits", "__eq__"])},
}


class InterfaceTest(unittest.TestCase):
    def test_functions(self):
        for file, functions in FUNCTIONS.items():
            module = importlib.import_module("leastrooms." + file)
            for name, arguments in functions.items():
                function = getattr(module, name)
                self.assertIsInstance(function, types.FunctionType)
                self.assertEqual(function.__module__, module.__name__)
                self.assertEqual(str(inspect.signature(function)), arguments, name)

    def test_classes(self):
        for file, classes in CLASSES.items():
            module = importlib.import_module("leastrooms." + file)
            for name, (arguments, methods) in classes.items():
                cls = getattr(module, name)
                self.assertEqual(cls.__module__, module.__name__)
                self.assertEqual(str(inspect.signature(cls)), arguments, name)
                for method in methods:
                    self.assertIn(method, vars(cls), name)

    def test_attributes(self):
        net = Net({"ann": send("c"), "bob": take("c")})
        rooms = Rooms({"c": 1})
        beats = Beats(Net({"ann": forever(send("c")), "bob": forever(take("c"))}), rooms)
        for thing, names in [(Row(), ["parts", "size"]), (net, ["processes", "channels", "stores"]),
                             (rooms, ["stores", "total"]), (begin(net, 0, rooms), ["net", "n", "rooms"]),
                             (Course(), ["content", "size", "total_steps"]),
                             (run(net, 0, rooms), ["course", "moment", "is_endless", "movers", "lost", "knots", "is_enough"]),
                             (Line(1), ["at_zero", "slope"]), (formulas(net), ["period", "start"]),
                             (grow(net, 0, rooms, Policy()), ["rooms", "many", "is_forced", "picks"]),
                             (beats, ["net", "rooms", "events", "waits", "pace"]), (Draft(net), ["net", "changes"]),
                             (Engine(net, 0, rooms), ["moment", "log"]),
                             (Desk(net, 0, rooms), ["net", "n", "rooms", "events"])]:
            for name in names:
                self.assertFalse(callable(getattr(thing, name)), name)

    def test_methods_of_a_moment(self):
        now = begin(Net({"ann": send("c"), "bob": take("c")}), 0, Rooms({"c": 1}))
        for name, arguments in [("level", "(channel)"), ("level_in", "(store)"), ("place", "(process)"),
                                ("next_part", "(process)"), ("wait", "(process)"), ("can", "()")]:
            self.assertEqual(str(inspect.signature(getattr(now, name))), arguments)

    def test_what_yields(self):
        for call in [importlib.import_module("leastrooms.ends").steps_by_turns, Course.steps,
                     importlib.import_module("leastrooms.papers").waits_in]:
            self.assertTrue(inspect.isgeneratorfunction(call))

    def test_more_methods(self):
        self.assertEqual(str(inspect.signature(Line.through)), "(m, value, other, further)")
        self.assertIsInstance(vars(Line)["through"], staticmethod)
        self.assertEqual(str(inspect.signature(Line(1))), "(m)")
        self.assertEqual(str(inspect.signature(Policy().rank)), "(moment, store, corner)")
        self.assertEqual(str(inspect.signature(Policy())), "(moment, knot, movers=())")
        found = formulas(Net({"ann": send("c"), "bob": take("c")}))
        for name, arguments in [("least_lines", "(rest)"), ("corner_lines", "(rest)"), ("least_at", "(n)"),
                                ("corners_at", "(n)"), ("papers", "()")]:
            self.assertEqual(str(inspect.signature(getattr(found, name))), arguments)
        self.assertEqual(str(inspect.signature(Beats.begins)), "(self, rounds)")
        for name, arguments in [("held", "(self, process)"), ("stream", "(self, channel)"), ("waiting", "(self, channel)"),
                                ("step", "(self, process)"), ("play", "(self, order=None, most=1000)"), ("copy", "(self)"),
                                ("trial", "(self)")]:
            self.assertEqual(str(inspect.signature(getattr(Engine, name))), arguments)
        for name, arguments in [("works", "(self)"), ("least", "(self)"), ("lacking", "(self)"), ("do", "(self, event)"),
                                ("do_all", "(self, events)")]:
            self.assertEqual(str(inspect.signature(getattr(Desk, name))), arguments)
        for question in (Question(), Enough(), Holds("c", 1), Ends("ann", "ended")):
            self.assertEqual(str(inspect.signature(question)), "(desk)")
        self.assertEqual(str(inspect.signature(Console.run)), "(self, line)")

    def test_the_state_of_a_run(self):
        net = Net({"ann": send("c"), "bob": take("c")})
        self.assertEqual(str(inspect.signature(run(net, 0, Rooms({"c": 1})).state)), "(process)")


if __name__ == "__main__":
    unittest.main()

"""[2], [3] and [42]: the names, the arguments and the places of the interface."""

import importlib
import inspect
import types
import unittest

from leastrooms.moments import begin
from leastrooms.nets import Net
from leastrooms.rooms import Rooms
from leastrooms.rows import Row, send, take

FUNCTIONS = {
    "counts": {"is_count": "(thing)", "rounds": "(count, n)", "format_count": "(count)", "parse_count": "(text)"},
    "rows": {
        "send": "(channel, k=1)", "take": "(channel, k=1)", "work": "(time)", "loop": "(count, row)", "forever": "(row)",
        "channels_of": "(row)", "messages": "(row, n)",
    },
    "rooms": {"least_possible": "(net)", "without_limit": "(net)"},
    "moments": {"begin": "(net, n, rooms)"},
    "ends": {
        "steps_by_turns": "(moment)", "end_of": "(moment, most=10000)", "lost": "(moment, movers=())",
        "is_knot": "(moment, thing, movers=())", "knots": "(moment, movers=())",
        "corner_of": "(moment, knot, movers=())",
    },
}
CLASSES = {
    "rows": {"Row": ("(parts=())", ["__add__", "__mul__", "__eq__", "__str__"])},
    "nets": {"Net": ("(programs, first=None, stores=None)", [
        "row", "sender", "taker", "first", "store_of", "channels_in", "least_room", "__eq__",
    ])},
    "rooms": {"Rooms": ("(values)", ["__getitem__", "pairs", "raised", "__or__", "__and__", "fits", "__eq__"])},
}


class InterfaceTest(unittest.TestCase):
    def test_functions(self):
        for file, functions in FUNCTIONS.items():
            module = importlib.import_module("leastrooms." + file)
            for name, arguments in functions.items():
                function = getattr(module, name)
                self.assertIsInstance(function, types.FunctionType)
                self.assertEqual(function.__module__, module.__name__)
                self.assertEqual(str(inspect.signature(function)), arguments, name)

    def test_classes(self):
        for file, classes in CLASSES.items():
            module = importlib.import_module("leastrooms." + file)
            for name, (arguments, methods) in classes.items():
                cls = getattr(module, name)
                self.assertEqual(cls.__module__, module.__name__)
                self.assertEqual(str(inspect.signature(cls)), arguments, name)
                for method in methods:
                    self.assertIn(method, vars(cls), name)

    def test_attributes(self):
        net = Net({"ann": send("c"), "bob": take("c")})
        rooms = Rooms({"c": 1})
        for thing, names in [(Row(), ["parts", "size"]), (net, ["processes", "channels", "stores"]),
                             (rooms, ["stores", "total"]), (begin(net, 0, rooms), ["net", "n", "rooms"])]:
            for name in names:
                self.assertFalse(callable(getattr(thing, name)), name)

    def test_methods_of_a_moment(self):
        now = begin(Net({"ann": send("c"), "bob": take("c")}), 0, Rooms({"c": 1}))
        for name, arguments in [("level", "(channel)"), ("level_in", "(store)"), ("place", "(process)"),
                                ("next_part", "(process)"), ("wait", "(process)"), ("can", "()")]:
            self.assertEqual(str(inspect.signature(getattr(now, name))), arguments)

    def test_steps_by_turns_yields(self):
        steps = importlib.import_module("leastrooms.ends").steps_by_turns
        self.assertTrue(inspect.isgeneratorfunction(steps))


if __name__ == "__main__":
    unittest.main()

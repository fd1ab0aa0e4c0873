"""[42]: the classes of errors, where each stands, and what it keeps."""

import inspect
import unittest

from leastrooms import errors
from tests.helping import strange_values

UNDER_ROOM_ERROR = """
BadText BadCount BadRow BadNumber BadNet BadRooms Small BadGroup NoKnot BadCourse NotRight BadPrices BadList BadVector
NotSo BadLine BadPaper BadPolicy NoBeat BadPace BadBeats BadChange BadSeeds BadValue BadEntries BadJournal BadEvent
BadEvents BadPlan BadQuestion
""".split()
UNDER_NO_ENTRY = ["NoProcess", "NoChannel", "NoStore"]
UNDER_RUNTIME_ERROR = ["Refused", "TooLong", "TooMany", "NotStraight"]
PARENTS = {
    "RoomError": "ValueError", "NoEntry": "KeyError",
    **{name: "RoomError" for name in UNDER_ROOM_ERROR},
    **{name: "NoEntry" for name in UNDER_NO_ENTRY},
    **{name: "RuntimeError" for name in UNDER_RUNTIME_ERROR},
}
NATIVE = {"ValueError": ValueError, "KeyError": KeyError, "RuntimeError": RuntimeError}


class ErrorsTest(unittest.TestCase):
    def test_each_stands_where_it_must(self):
        for name, parent in PARENTS.items():
            with self.subTest(name=name):
                cls = getattr(errors, name)
                self.assertTrue(inspect.isclass(cls))
                self.assertEqual(cls.__module__, "leastrooms.errors")
                self.assertTrue(issubclass(cls, NATIVE.get(parent) or getattr(errors, parent)))

    def test_none_stands_under_another_one(self):
        for name in PARENTS:
            for other in PARENTS:
                expected = other == name or PARENTS[name] == other
                self.assertEqual(issubclass(getattr(errors, name), getattr(errors, other)), expected, (name, other))

    def test_native_bases_are_kept_apart(self):
        for name, parent in PARENTS.items():
            native = parent if parent in NATIVE else PARENTS[parent]
            for word, cls in NATIVE.items():
                self.assertEqual(issubclass(getattr(errors, name), cls), word == native, (name, word))

    def test_value_is_kept(self):
        for name in ["RoomError", "NoEntry"] + UNDER_ROOM_ERROR + UNDER_NO_ENTRY:
            for value in strange_values():
                self.assertIs(getattr(errors, name)(value).value, value)

    def test_value_is_kept_when_raised(self):
        thing = object()
        with self.assertRaises(ValueError) as caught:
            raise errors.NotRight(thing)
        self.assertIs(caught.exception.value, thing)
        with self.assertRaises(KeyError) as caught:
            raise errors.NoStore(thing)
        self.assertIs(caught.exception.value, thing)

    def test_refused_keeps_both(self):
        thing = object()
        error = errors.Refused("full", thing)
        self.assertEqual(error.word, "full")
        self.assertIs(error.value, thing)
        self.assertIsNone(errors.Refused("ended", None).value)

    def test_three_without_value(self):
        for name in ["TooLong", "TooMany", "NotStraight"]:
            with self.assertRaises(RuntimeError) as caught:
                raise getattr(errors, name)()
            self.assertIs(type(caught.exception), getattr(errors, name))


if __name__ == "__main__":
    unittest.main()

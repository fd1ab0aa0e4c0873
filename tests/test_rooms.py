"""[10], and the general rules of [3] for rooms."""

import unittest

from leastrooms.errors import BadNet, BadNumber, BadRooms, NoStore, Small
from leastrooms.moments import begin
from leastrooms.nets import Net
from leastrooms.rooms import Rooms, least_possible, without_limit
from leastrooms.rows import send, take, work
from tests.helping import Case, Strange, strange_values

MOST = 10 ** 200
NO_ROOMS = [-1, MOST + 1, True, False, 1.0, "1", "", (1,), [1], {}, b"1", 10 ** 5000, object(), Strange(), "none"]
NO_WORDS = ["", "A", "Ann", "abcdefghi", "a b", "a1", "\u00e4", "a\n", None, True, False, 1, 0, b"c", ("c",)]
PAIR = Net({"ann": send("c", 3) + send("d"), "bob": take("c") + take("d", 2)}, {"d": 4})


class RoomsTest(Case):
    def test_rooms(self):
        rooms = Rooms({"d": 0, "c": MOST, "abcdefgh": None, "b": 7})
        self.assertEqual(rooms.stores, ("abcdefgh", "b", "c", "d"))
        self.assertIs(type(rooms.stores), tuple)
        self.assertEqual(rooms.pairs(), [("abcdefgh", None), ("b", 7), ("c", MOST), ("d", 0)])
        self.assertEqual([rooms["d"], rooms["c"], rooms["abcdefgh"], rooms["b"]], [0, MOST, None, 7])
        self.assertEqual(Rooms(values={"c": 1}).pairs(), [("c", 1)])

    def test_total(self):
        self.assertEqual(Rooms({}).total, 0)
        self.assertEqual(Rooms({"c": 3, "d": 0, "e": 4}).total, 7)
        self.assertEqual(Rooms({"c": MOST, "d": MOST}).total, 2 * MOST)
        self.assertIsNone(Rooms({"c": 3, "d": None}).total)
        self.assertIsNone(Rooms({"c": None}).total)

    def test_without_stores(self):
        self.assertEqual([Rooms({}).stores, Rooms({}).pairs()], [(), []])
        self.keeps(NoStore, "c", Rooms({}).__getitem__, "c")

    def test_wrong_values(self):
        values = [value for value in strange_values() if value != {}]
        self.keeps_all(BadRooms, values + [[("c", 1)], ("c", 1), "c", Rooms({"c": 1}), 5], Rooms)
        for room in NO_ROOMS:
            for given in [{"c": room}, {"b": 1, "c": room}]:
                self.keeps(BadRooms, given, Rooms, given)
        for word in NO_WORDS:
            given = {"c": 1, word: 1}
            self.keeps(BadRooms, given, Rooms, given)

    def test_no_store(self):
        rooms = Rooms({"c": 1, "d": 2})
        wrong = strange_values() + ["e", "C", "c ", [], ["c"], ("c", "d")]
        self.keeps_all(NoStore, wrong, lambda store: rooms[store])
        self.keeps_all(NoStore, wrong, lambda store: rooms.raised(store, 5))

    def test_raised(self):
        rooms = Rooms({"c": 1, "d": 2})
        self.assertEqual(rooms.raised("c", 5), Rooms({"c": 5, "d": 2}))
        self.assertEqual(rooms.raised("c", 0), Rooms({"c": 0, "d": 2}))
        self.assertEqual(rooms.raised(store="d", room=None), Rooms({"c": 1, "d": None}))
        self.assertEqual(rooms.raised("d", MOST).total, MOST + 1)
        self.assertEqual(rooms.raised("d", None).total, None)
        self.assertEqual(rooms.pairs(), [("c", 1), ("d", 2)])
        self.assertEqual(rooms.total, 3)

    def test_raised_to_no_room(self):
        rooms = Rooms({"c": 1, "d": 2})
        self.keeps_all(BadRooms, NO_ROOMS, lambda room: rooms.raised("c", room))
        self.keeps(NoStore, "x", rooms.raised, "x", -1)

    def test_greater_and_lesser(self):
        one = Rooms({"a": 1, "b": 5, "c": None, "d": 3, "e": None})
        other = Rooms({"a": 2, "b": 4, "c": 7, "d": None, "e": None})
        self.assertEqual((one | other).pairs(), [("a", 2), ("b", 5), ("c", None), ("d", None), ("e", None)])
        self.assertEqual((one & other).pairs(), [("a", 1), ("b", 4), ("c", 7), ("d", 3), ("e", None)])
        self.assertEqual(one | other, other | one)
        self.assertEqual(one & other, other & one)
        self.assertIsInstance(one | other, Rooms)
        self.assertEqual(one.pairs(), [("a", 1), ("b", 5), ("c", None), ("d", 3), ("e", None)])
        self.assertEqual(other.pairs(), [("a", 2), ("b", 4), ("c", 7), ("d", None), ("e", None)])
        self.assertEqual(Rooms({"c": 0}) & Rooms({"c": None}), Rooms({"c": 0}))
        self.assertEqual(Rooms({"c": 0}) | Rooms({"c": MOST}), Rooms({"c": MOST}))

    def test_fits(self):
        for one, other, expected in [
            ((1, 2), (1, 2), True), ((1, 2), (2, 2), True), ((1, 2), (1, 1), False), ((1, 2), (0, 9), False),
            ((1, None), (1, None), True), ((1, 2), (1, None), True), ((1, None), (1, MOST), False),
            ((None, None), (None, None), True), ((0, MOST), (None, None), True), ((2, 0), (1, None), False),
        ]:
            left, right = Rooms(dict(zip("cd", one))), Rooms(dict(zip("cd", other)))
            self.assertIs(left.fits(right), expected)
        self.assertIs(Rooms({}).fits(other=Rooms({})), True)

    def test_other_rooms_of_other_kinds(self):
        rooms = Rooms({"c": 1, "d": 2})
        wrong = strange_values() + [
            Rooms({"c": 1}), Rooms({"c": 1, "d": 2, "e": 3}), Rooms({"c": 1, "e": 2}), Rooms({}), {"c": 1, "d": 2},
            [("c", 1), ("d", 2)],
        ]
        self.keeps_all(BadRooms, wrong, rooms.fits)
        self.keeps_all(BadRooms, wrong, lambda other: rooms | other)
        self.keeps_all(BadRooms, wrong, lambda other: rooms & other)

    def test_equal(self):
        self.assertTrue(Rooms({"c": 1, "d": None}) == Rooms({"d": None, "c": 1}))
        self.assertFalse(Rooms({"c": 1, "d": None}) != Rooms({"d": None, "c": 1}))
        for other in [Rooms({"c": 1}), Rooms({"c": 1, "d": 1}), Rooms({"c": None, "d": None}), Rooms({"c": 1, "e": None}),
                      {"c": 1, "d": None}, [("c", 1), ("d", None)], None, 1, object()]:
            self.assertFalse(Rooms({"c": 1, "d": None}) == other)
            self.assertTrue(Rooms({"c": 1, "d": None}) != other)
        self.assertFalse(Rooms({}) == {})

    def test_copies_and_new_lists(self):
        values = {"c": 1, "d": 2}
        rooms = Rooms(values)
        values["c"] = 9
        values["e"] = 5
        rooms.pairs().append(("x", 1))
        rooms.pairs()[0] = ("c", 8)
        self.assertEqual(rooms.pairs(), [("c", 1), ("d", 2)])
        self.assertIs(type(rooms.pairs()), list)
        self.assertEqual(rooms["c"], 1)
        self.assertEqual(values, {"c": 9, "d": 2, "e": 5})


class RoomsOfNetsTest(Case):
    def test_least_possible(self):
        self.assertEqual(least_possible(PAIR), Rooms({"c": 3, "d": 4}))
        shared = Net({"ann": send("c", 3) + send("d")}, {"c": 2, "d": 2}, {"s": ["c", "d"]})
        self.assertEqual(least_possible(net=shared), Rooms({"s": 4}))
        self.assertEqual(least_possible(Net({"ann": work(1)})), Rooms({}))

    def test_without_limit(self):
        self.assertEqual(without_limit(PAIR), Rooms({"c": None, "d": None}))
        self.assertEqual(without_limit(net=PAIR).total, None)
        self.assertEqual(without_limit(Net({"ann": work(1)})), Rooms({}))

    def test_no_net(self):
        for call in (least_possible, without_limit):
            self.keeps_all(BadNet, strange_values() + [{"ann": work(1)}, Rooms({})], call)


class WhereverRoomsAreArgumentsTest(Case):
    def test_right_rooms(self):
        for rooms in [Rooms({"c": 3, "d": 4}), Rooms({"c": None, "d": None}), Rooms({"c": MOST, "d": 4})]:
            self.assertEqual(begin(PAIR, 0, rooms).rooms, rooms)

    def test_bad_rooms(self):
        wrong = strange_values() + [{"c": 3, "d": 4}, Rooms({}), Rooms({"c": 3}), Rooms({"c": 3, "d": 4, "e": 5}),
                                    Rooms({"c": 3, "x": 4}), Rooms({"d": 4}), [("c", 3), ("d", 4)]]
        self.keeps_all(BadRooms, wrong, lambda rooms: begin(PAIR, 0, rooms))
        shared = Net({"ann": send("c") + send("d")}, None, {"s": ["c", "d"]})
        self.keeps_all(BadRooms, [Rooms({"c": 1, "d": 1})], lambda rooms: begin(shared, 0, rooms))

    def test_small(self):
        for rooms, store in [((2, 4), "c"), ((3, 3), "d"), ((2, 3), "c"), ((0, 0), "c"), ((None, 3), "d"),
                             ((0, None), "c")]:
            self.keeps_equal(Small, store, begin, PAIR, 0, Rooms(dict(zip("cd", rooms))))

    def test_order_of_arguments(self):
        self.keeps_all(BadNet, strange_values(), lambda net: begin(net, -1, None))
        self.keeps(BadNumber, True, begin, PAIR, True, Rooms({"c": 0, "d": 0}))
        self.keeps(BadNumber, None, begin, PAIR, None, None)
        self.keeps_equal(BadRooms, None, begin, PAIR, 10 ** 30, None)


if __name__ == "__main__":
    unittest.main()

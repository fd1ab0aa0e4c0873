"""[39]: desks, repairs and plans."""

import itertools
import unittest

from leastrooms.changes import Draft
from leastrooms.corners import corners, is_enough, least_rooms, why_not
from leastrooms.desks import Desk, read_plan, repair, write_plan
from leastrooms.errors import (
    BadChange, BadEvent, BadEvents, BadNet, BadNumber, BadPlan, BadPrices, BadRooms, NoStore, NotSo, Small, TooLong, TooMany,
)
from leastrooms.nets import Net
from leastrooms.rooms import Rooms, least_possible
from leastrooms.rows import forever, loop, send, take, work
from tests.helping import Case, Strange, chance_net, chance_rooms, chances, crossing_net, strange_values
from tests.test_changes import right_changes, wrong_changes

FAR = 10 ** 30
MOST = 10 ** 200


def meeting():
    return Net({"ann": loop("n", send("c")) + send("d"), "bob": take("d") + loop("n", take("c"))})


def crossed(one=5, other=3):
    return Net({"ann": loop(one, send("c")) + loop(other, take("d")), "bob": loop(other, send("d")) + loop(one, take("c"))})


def desk_of(net=None, n=5, c=1, d=1):
    return Desk(meeting() if net is None else net, n, Rooms({"c": c, "d": d}))


def state_of(desk):
    return (desk.net, desk.n, desk.rooms, desk.events)


class DeskTest(Case):
    def test_beginning(self):
        net = meeting()
        desk = Desk(net, 7, Rooms({"c": 1, "d": None}))
        self.assertEqual(state_of(desk), (net, 7, Rooms({"c": 1, "d": None}), []))
        self.assertEqual([desk.works(), desk.least(), desk.lacking()],
                         [False, least_rooms(net, 7), corners(net, 7)[0]])
        self.assertTrue(desk_of(c=5).works())
        self.assertIsNone(desk_of(c=5).lacking())

    def test_wrong(self):
        net = meeting()
        self.keeps_all(BadNet, strange_values(), lambda thing: Desk(thing, None, None))
        self.keeps_all(BadNumber, strange_values() + [FAR + 1], lambda thing: Desk(net, thing, None))
        self.keeps_all(BadRooms, strange_values() + [Rooms({"c": 1})], lambda thing: Desk(net, 0, thing))
        self.keeps_equal(Small, "d", Desk, net, 0, Rooms({"c": 1, "d": 0}))
        self.assertEqual(Desk(net, FAR, Rooms({"c": 1, "d": 1})).n, FAR)

    def test_room(self):
        desk = desk_of()
        for event in [("room", "c", 5), ("room", "d", None), ("room", "c", MOST), ("room", "c", 1)]:
            self.assertIsNone(desk.do(event))
            self.assertEqual(desk.rooms[event[1]], event[2])
        self.assertEqual(desk.events, [("room", "c", 5), ("room", "d", None), ("room", "c", MOST), ("room", "c", 1)])
        before = state_of(desk)
        self.keeps_equal(NoStore, "x", desk.do, ("room", "x", 5))
        self.keeps_equal(NoStore, "x", desk.do, ("room", "x", 0))
        self.keeps_equal(Small, "c", desk.do, ("room", "c", 0))
        self.assertEqual(state_of(desk), before)

    def test_n(self):
        desk = desk_of()
        for n in (0, 7, FAR):
            desk.do(("n", n))
            self.assertEqual(desk.n, n)
        self.assertEqual(desk.least(), least_rooms(meeting(), FAR))
        desk.do(("undo",))
        self.assertEqual(desk.n, 7)
        self.assertEqual(desk.events, [("n", 0), ("n", 7)])

    def test_change(self):
        desk = desk_of(c=4, d=None)
        desk.do(("change", ("relay", "c", "cid", "x")))
        self.assertEqual(desk.net, (Draft(meeting()) >> ("relay", "c", "cid", "x")).net)
        self.assertEqual(desk.rooms, Rooms({"c": 4, "d": None, "x": 1}))
        desk.do(("change", ("first", "c", 9)))
        self.assertEqual(desk.rooms, Rooms({"c": 9, "d": None, "x": 1}))
        desk.do(("change", ("first", "c", 2)))
        self.assertEqual(desk.rooms, Rooms({"c": 9, "d": None, "x": 1}))
        desk.do(("undo",))
        desk.do(("undo",))
        self.assertEqual(desk.rooms, Rooms({"c": 4, "d": None, "x": 1}))
        desk.do(("undo",))
        self.assertEqual(state_of(desk), state_of(desk_of(c=4, d=None)))

    def test_stores_that_go_and_come(self):
        net = Net({"ann": send("c", 3) + send("d"), "bob": take("c") + take("d")})
        desk = Desk(net, 0, Rooms({"c": 7, "d": 8}))
        desk.do(("change", ("join", "s", ("c", "d"))))
        self.assertEqual(desk.rooms, Rooms({"s": 3}))
        desk.do(("room", "s", 9))
        desk.do(("change", ("part", "s")))
        self.assertEqual(desk.rooms, Rooms({"c": 3, "d": 1}))
        desk.do(("undo",))
        self.assertEqual(desk.rooms, Rooms({"s": 9}))

    def test_a_shared_store_with_one_channel_left(self):
        net = Net({"ann": send("c", 3) + send("d"), "bob": take("c") + take("d")}, None, {"s": ("c", "d")})
        desk = Desk(net, 0, Rooms({"s": 9}))
        change = ("row", "ann", (("send", "c", 9),))
        self.keeps(BadChange, change, desk.do, ("change", change))
        desk.do_all([("change", ("row", "bob", (("take", "c", 1),))), ("change", change)])
        self.assertEqual(desk.rooms, Rooms({"c": 9}))

    def test_a_channel_that_goes(self):
        desk = Desk(Net({"ann": send("c") + send("d"), "bob": take("c")}), 0, Rooms({"c": 5, "d": 6}))
        desk.do(("change", ("row", "ann", (("send", "c", 7),))))
        self.assertEqual(desk.rooms, Rooms({"c": 7}))
        desk.do(("change", ("row", "ann", (("send", "d", 2),))))
        self.assertEqual(desk.rooms, Rooms({"c": 7, "d": 2}))

    def test_changes_that_do_not_fit(self):
        desk = desk_of()
        before = state_of(desk)
        values = strange_values() + wrong_changes() + [change for change in right_changes() if change[:2] != ("kill", "ann")]
        values = [value for value in values if not self.fits(value)]
        for change in values:
            self.keeps(BadChange, change, desk.do, ("change", change))
            self.assertEqual(state_of(desk), before)

    def fits(self, change):
        try:
            Draft(meeting()) >> change
        except BadChange:
            return False
        return True

    def test_undo(self):
        desk = desk_of()
        event = ("undo",)
        self.keeps(BadEvent, event, desk.do, event)
        desk.do(("room", "c", 2))
        desk.do(("n", 9))
        desk.do(("room", "c", 3))
        desk.do(("undo",))
        desk.do(("undo",))
        self.assertEqual(state_of(desk), (meeting(), 5, Rooms({"c": 2, "d": 1}), [("room", "c", 2)]))
        desk.do(("n", 4))
        desk.do(("undo",))
        desk.do(("undo",))
        self.assertEqual(state_of(desk), state_of(desk_of()))
        self.keeps(BadEvent, event, desk.do, event)

    def test_what_is_no_event(self):
        wrong = [
            ("room", "c"), ("room", "c", 5, 5), ("room", "C", 5), ("room", 1, 5), ("room", "c", -1), ("room", "c", MOST + 1),
            ("room", "c", True), ("room", "c", 1.0), ("room", "c", "5"), ("room", "c", "none"), ["room", "c", 5],
            ("n",), ("n", -1), ("n", FAR + 1), ("n", True), ("n", None), ("n", "7"), ("n", 7, 7), ["n", 7],
            ("change",), ("change", 1, 2), ["change", ("part", "s")], ("undo", 1), ["undo"], ("Undo",), ("redo",),
            (Strange(),), (Strange(), 7), ("n", Strange()), ("room", Strange(), 5), ("part", "s"), ("first", "c", 1),
        ]
        desk = desk_of()
        desk.do(("n", 3))
        before = state_of(desk)
        self.keeps_all(BadEvent, strange_values() + wrong, desk.do)
        self.assertEqual(state_of(desk), before)

    def test_events_are_new(self):
        desk = desk_of()
        desk.do(("n", 3))
        desk.events.clear()
        desk.least().clear()
        self.assertEqual(desk.events, [("n", 3)])
        self.assertEqual(len(desk.least()), 1)

    def test_do_all(self):
        events = [("n", 3), ("room", "c", 3), ("undo",), ("room", "c", 2), ("change", ("first", "d", 1))]
        for told in (events, tuple(events)):
            desk = desk_of()
            self.assertIsNone(desk.do_all(told))
            other = desk_of()
            for event in events:
                other.do(event)
            self.assertEqual(state_of(desk), state_of(other))
            self.assertEqual(desk.events, [("n", 3), ("room", "c", 2), ("change", ("first", "d", 1))])
        desk.do_all([])
        desk.do_all(())
        desk.do_all([("undo",), ("undo",), ("undo",)])
        self.assertEqual(state_of(desk), state_of(desk_of()))

    def test_all_or_none(self):
        right = [("n", 3), ("undo",), ("room", "c", 3), ("change", ("first", "d", 1))]
        wrong = [(BadEvent, None), (BadEvent, ("n", -1)), (NoStore, ("room", "x", 1)), (Small, ("room", "c", 0)),
                 (BadChange, ("change", ("part", "c"))), (BadChange, ("change", None)), (BadEvent, Strange())]
        for error, event in wrong:
            for at in range(len(right) + 1):
                desk = desk_of(c=2)
                desk.do(("n", 8))
                before = state_of(desk)
                kept = self.fails(error, desk.do_all, right[:at] + [event] + right[at:]).value
                self.assertIs(kept, {NoStore: "x", Small: "c"}.get(error, event[1] if error is BadChange else event))
                self.assertEqual(state_of(desk), before)
        desk = desk_of()
        event = ("undo",)
        self.keeps(BadEvent, event, desk.do_all, [("n", 3), ("undo",), event])
        self.assertEqual(state_of(desk), state_of(desk_of()))
        values = [value for value in strange_values() if not isinstance(value, (list, tuple))]
        self.keeps_all(BadEvents, values + [{("n", 3): 1}, iter([("n", 3)])], desk.do_all)

    def test_by_chance(self):
        for chance in chances(80, 391):
            net = chance_net(chance)
            desk = Desk(net, 1, least_possible(net))
            stands = [state_of(desk)]
            for _ in range(12):
                event = self.chance_event(chance, desk.net)
                try:
                    desk.do(event)
                except (BadChange, NoStore, Small, BadEvent):
                    self.assertEqual(state_of(desk), stands[-1])
                    continue
                if event == ("undo",):
                    stands.pop()
                else:
                    stands.append(state_of(desk))
                self.assertEqual(state_of(desk), stands[-1])
                self.assertEqual(desk.rooms.stores, desk.net.stores)
            again = Desk(net, 1, least_possible(net))
            again.do_all(desk.events)
            self.assertEqual(state_of(again), state_of(desk))
            self.assertEqual(desk.works(), is_enough(desk.net, desk.n, desk.rooms))
            try:
                self.assertEqual(desk.lacking(), why_not(desk.net, desk.n, desk.rooms))
            except (TooMany, TooLong):
                pass

    def chance_event(self, chance, net):
        kind = chance.random()
        store = chance.choice(net.stores + ("x",))
        if kind < 0.3:
            return ("room", store, chance.choice((None, 0, 1, 2, 5, MOST)))
        if kind < 0.4:
            return ("n", chance.randint(0, 3))
        if kind < 0.6:
            return ("undo",)
        process = chance.choice(net.processes)
        return ("change", chance.choice([
            ("row", process, ()), ("first", store, chance.randint(0, 4)), ("part", store), ("join", "new", ("p", "q")),
            ("relay", store, "zed", "z"), ("kill", process, 1, chance.randint(0, 3)),
        ]))


class RepairTest(Case):
    def test_ordinary(self):
        desk = desk_of(crossed(), 0)
        self.assertEqual(repair(desk, {"c": 1, "d": 1}), [("room", "d", 3)])
        self.assertEqual(repair(desk, {"c": 1, "d": 2}), [("room", "d", 3)])
        self.assertEqual(repair(desk, {"c": 1, "d": 3}), [("room", "c", 5)])
        # Both growths cost four: the first in the order of the Rooms that come out.
        self.assertEqual(repair(desk_of(crossed(), 0, 1, 1), {"c": 1, "d": 2})[0][1], "d")
        self.assertEqual(repair(desk_of(crossed(), 0, 3, 1), {"c": 1, "d": 1}), [("room", "d", 3)])
        self.assertEqual(repair(desk_of(crossed(), 0, 4, 1), {"c": 1, "d": 1}), [("room", "c", 5)])
        self.assertEqual(desk.events, [])

    def test_prices_of_nothing(self):
        desk = desk_of(crossed(), 0)
        self.assertEqual(repair(desk, {"c": 0, "d": 1}), [("room", "c", 5)])
        self.assertEqual(repair(desk, {"c": 1, "d": 0}), [("room", "d", 3)])
        self.assertEqual(repair(desk, {"c": 0, "d": 0}), [("room", "d", 3)])
        self.assertEqual(repair(desk_of(crossed(), 0, 5, 3), {"c": 0, "d": 0}), [])

    def test_several_stores(self):
        net = Net({"ann": loop(4, send("c")) + loop(6, send("d")) + send("e"),
                   "bob": take("e") + loop(4, take("c")) + loop(6, take("d"))})
        desk = Desk(net, 0, Rooms({"c": 2, "d": 5, "e": 1}))
        self.assertEqual(repair(desk, {"c": 1, "d": 1, "e": 1}), [("room", "c", 4), ("room", "d", 6)])
        desk.do_all(repair(desk, {"c": 1, "d": 1, "e": 1}))
        self.assertTrue(desk.works())
        self.assertEqual(repair(desk, {"c": 1, "d": 1, "e": 1}), [])

    def test_rooms_without_limit_stay(self):
        self.assertEqual(repair(desk_of(c=None), {"c": 5, "d": 5}), [])
        self.assertEqual(repair(desk_of(c=2, d=None), {"c": 5, "d": 5}), [("room", "c", 5)])
        net = crossed()
        self.assertEqual(repair(desk_of(net, 0, None, 1), {"c": 1, "d": 1}), [])

    def test_no_numbers_are_enough(self):
        # Who sends without end what is never taken needs a room without limit.
        net = Net({"ann": forever(send("c")), "bob": loop(3, take("c")) + take("d")})
        desk = Desk(net, 0, Rooms({"c": 3, "d": 1}))
        self.assertIs(self.fails(NotSo, repair, desk, {"c": 1, "d": 1}).value, desk.rooms)
        self.assertEqual(repair(Desk(net, 0, Rooms({"c": None, "d": 1})), {"c": 1, "d": 1}), [])

    def test_by_all_rooms(self):
        for chance in chances(60, 392):
            net = crossing_net(chance)
            if len(net.stores) > 3:
                continue
            rooms = chance_rooms(chance, net)
            desk = Desk(net, 2, rooms)
            prices = {store: chance.choice((0, 1, 1, 2, 3)) for store in net.stores}
            try:
                least = least_rooms(net, 2)
            except (TooMany, TooLong):
                continue
            tops = {store: max([1] + [one[store] for one in least if one[store] is not None]) for store in net.stores}
            grid = [[None] if room is None else range(room, max(room, tops[store]) + 1) for store, room in rooms.pairs()]
            found = []
            for numbers in itertools.product(*grid):
                behind = Rooms(dict(zip(net.stores, numbers)))
                if any(one.fits(behind) for one in least):
                    cost = sum((behind[store] - room) * prices[store] for store, room in rooms.pairs() if room is not None)
                    found.append((cost, [MOST + 1 if room is None else room for _, room in behind.pairs()], behind))
            if not found:
                self.fails(NotSo, repair, desk, prices)
                continue
            best = min(found, key=lambda one: one[:2])[2]
            expected = [("room", store, room) for store, room in best.pairs() if room != rooms[store]]
            self.assertEqual(repair(desk, prices), expected)
            self.assertEqual(state_of(desk), (net, 2, rooms, []))

    def test_wrong(self):
        desk = desk_of()
        wrong = [{"c": 1}, {"c": 1, "d": 1, "e": 1}, {"c": 1, "x": 1}, {"c": -1, "d": 1}, {"c": 1, "d": 10 ** 6 + 1},
                 {"c": True, "d": 1}, {"c": 1.0, "d": 1}, {"c": None, "d": 1}, [("c", 1), ("d", 1)]]
        self.keeps_all(BadPrices, strange_values() + wrong, lambda thing: repair(desk, thing))
        self.keeps_all(BadPrices, wrong, lambda thing: repair(desk_of(c=5), thing))
        self.assertEqual(repair(desk, {"c": 10 ** 6, "d": 0}), [("room", "c", 5)])


def told_events():
    """Tuples of a line and an event of each kind."""
    return [
        ("room c 5", ("room", "c", 5)), ("room c 0", ("room", "c", 0)), ("room abcdefgh none", ("room", "abcdefgh", None)),
        (f"room c {MOST}", ("room", "c", MOST)), ("room none none", ("room", "none", None)), ("n 7", ("n", 7)), ("n 0", ("n", 0)),
        (f"n {FAR}", ("n", FAR)), ("undo", ("undo",)), ("first c 3", ("change", ("first", "c", 3))),
        ("first c 0", ("change", ("first", "c", 0))), ("first c 99", ("change", ("first", "c", 99))),
        ("join s c d", ("change", ("join", "s", ("c", "d")))), ("join s d c", ("change", ("join", "s", ("d", "c")))),
        ("join join c d e f g h i j k l m n o", ("change", ("join", "join", tuple("cdefghijklmno")))),
        ("part s", ("change", ("part", "s"))), ("relay c cid x", ("change", ("relay", "c", "cid", "x"))),
        ("kill ann 5 7", ("change", ("kill", "ann", 5, 7))), (f"kill ann {FAR} {FAR}", ("change", ("kill", "ann", FAR, FAR))),
        ("kill n 0 0", ("change", ("kill", "n", 0, 0))), ("row ann ", ("change", ("row", "ann", ()))),
        ("row ann send c 2; loop 3n-2 (take d); forever (work 5)",
         ("change", ("row", "ann", (send("c", 2) + loop("3n-2", take("d")) + forever(work(5))).parts))),
        ("row row work 1", ("change", ("row", "row", (("work", 1),)))),
    ]


class PlanTest(Case):
    def test_write(self):
        for line, event in told_events():
            self.assertEqual(write_plan([event]), line + "\n")
        lines = [line for line, _ in told_events()]
        events = [event for _, event in told_events()]
        self.assertEqual(write_plan(events), "".join(line + "\n" for line in lines))
        self.assertEqual(write_plan(tuple(events)), write_plan(events))
        self.assertEqual(write_plan([]), "")

    def test_read(self):
        for line, event in told_events():
            self.assertEqual(read_plan(line + "\n"), [event])
        events = [event for _, event in told_events()]
        self.assertEqual(read_plan(write_plan(events)), events)
        self.assertEqual(read_plan(""), [])
        self.assertEqual(read_plan("undo\nundo\n"), [("undo",), ("undo",)])

    def test_write_wrong(self):
        right = ("n", 7)
        wrong = [("change", change) for change in wrong_changes() + [None, ()]]
        wrong += [("room", "c", MOST + 1), ("n", FAR + 1), ("undo", 1), ["undo"], "undo", None, Strange(), ("Undo",), ("change",)]
        self.keeps_all(BadEvents, [[event] for event in wrong] + [(right, event) for event in wrong], write_plan)
        values = [value for value in strange_values() if value not in ([], ())]
        self.keeps_all(BadEvents, values + [right, {right: 1}, iter([right])], write_plan)

    def reads(self, text, line):
        self.keeps_equal(BadPlan, line, read_plan, text)

    def test_read_wrong_lines(self):
        wrong = [
            "", " ", "room", "room c", "room c ", "room  c 5", "room c  5", "room c 5 ", " room c 5", "room c 05", "room c +5",
            "room c -5", "room C 5", "room c 5 5", "room c None", "room c -", "room c x", f"room c {MOST + 1}", "room c " + "1" * 5000,
            "Room c 5", "room abcdefghi 5", "room 1 5", "n", "n ", "n 07", "n -7", "n +7", "n x", "n 7 7", f"n {FAR + 1}", "n  7",
            "n " + "9" * 5000, "undo ", " undo", "undo 1", "Undo", "redo", "change", "first", "first c", "first c 03", "first c -1",
            "first c 100", "first c x", "first C 3", "first c 3 3", "first  c 3", "join", "join s", "join s c", "join s c c",
            "join s c D", "join S c d", "join s c d ", "join s  c d", "join s, c, d", "part", "part ", "part S", "part s s",
            "part  s", "relay", "relay c cid", "relay c cid x y", "relay C cid x", "relay c  cid x", "relay c cid x ", "kill ann 5",
            "kill ann 5 7 9", "kill ann 05 7", "kill ann 5 -7", "kill Ann 5 7", f"kill ann {FAR + 1} 7", f"kill ann 5 {FAR + 1}",
            "kill ann 5  7", "kill ann x 7", "row", "row ann", "row ann  ", "row  ann work 1", "row ann work 0", "row Ann work 1",
            "row ann send c 1", "row ann work 1;", "row ann " + "(" * 5000, "row ann work 1 ", "row work 1", "room c \u0665", "undo\r",
            "step ann", "n 7\t",
        ]
        for line in wrong:
            with self.subTest(line=line[:40]):
                self.reads(line + "\n", 0)
                self.reads("undo\nn 7\n" + line + "\n", 2)
                self.reads("undo\n" + line + "\nn 07\n", 1)

    def test_without_the_last_line_feed(self):
        events = [event for _, event in told_events()]
        text = write_plan(events)
        for at in range(1, len(text)):
            part = text[:at]
            if part.endswith("\n"):
                self.assertEqual(read_plan(part), events[:part.count("\n")])
            else:
                # A line that is not right comes ahead of one without a line feed, but here there is none.
                self.reads(part, part.count("\n"))
        self.reads("n 7", 0)
        self.reads("undo\n\n", 1)
        self.reads("\nundo", 0)

    def test_any_value(self):
        values = [value for value in strange_values() if not (isinstance(value, str) and value == "")]
        for thing in values + [b"undo\n", ["undo"]]:
            self.reads(thing, 0)

    def test_a_plan_tells_a_desk(self):
        desk = desk_of()
        plan = "n 7\nroom c none\nrelay c cid x\nundo\nkill bob 7 3\nrow ann work 5\n"
        desk.do_all(read_plan(plan))
        self.assertEqual(write_plan(desk.events), plan.replace("relay c cid x\nundo\n", ""))
        self.assertEqual(desk.net.row("ann"), work(5))
        self.assertEqual(desk.net.row("bob"), take("d") + loop(2, take("c")) + loop(0, take("c") + take("d")))


if __name__ == "__main__":
    unittest.main()

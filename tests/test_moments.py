"""[11], [8] and the general rules of [3] for moments."""

import unittest

from leastrooms.errors import BadNet, BadNumber, NoChannel, NoProcess, NoStore, Refused
from leastrooms.moments import begin
from leastrooms.nets import Net
from leastrooms.rooms import Rooms, least_possible, without_limit
from leastrooms.rows import Row, forever, loop, send, take, work
from tests.helping import Case, Strange, chance_net, chance_rooms, chances, strange_values, walk

MOST = 10 ** 30
FAR = 10 ** 200
NOT_HASHED = [[], {}, ["ann"], Strange(), set()]


def alone(row, n=0):
    """The first moment of a process ann with this program, and no limits."""
    net = Net({"ann": row})
    return begin(net, n, without_limit(net))


def places(row, n, most=100):
    """The places of ann one after another, as long as it does steps."""
    now = alone(row, n)
    found = [now.place("ann")]
    while now.can() and len(found) < most:
        now = now >> "ann"
        found.append(now.place("ann"))
    return found


class BeginTest(Case):
    def test_first_moment(self):
        net = Net({"ann": send("c"), "bob": take("c") + take("d"), "cid": send("d", 2)}, {"d": 3})
        rooms = Rooms({"c": 1, "d": 5})
        now = begin(net, 7, rooms)
        self.assertEqual([now.net, now.n, now.rooms], [net, 7, rooms])
        self.assertEqual([now.level("c"), now.level("d")], [0, 3])
        self.assertEqual([now.place(process) for process in net.processes], [(0,), (0,), (0,)])
        self.assertEqual(begin(net=net, n=7, rooms=rooms), now)

    def test_wrong_arguments(self):
        net = Net({"ann": work(1)})
        self.keeps_all(BadNet, strange_values() + [{"ann": work(1)}, work(1)], lambda thing: begin(thing, 0, Rooms({})))
        self.keeps_all(BadNumber, strange_values() + [MOST + 1, -1, "1"], lambda n: begin(net, n, Rooms({})))
        self.assertEqual([begin(net, n, Rooms({})).n for n in (0, 1, MOST)], [0, 1, MOST])


class LevelsTest(Case):
    def setUp(self):
        self.net = Net(
            {"ann": send("c", 2) + send("d") + send("e"), "bob": take("d") + take("c", 3)},
            {"c": 1, "d": 4}, {"s": ["c", "d"]},
        )
        self.start = begin(self.net, 0, Rooms({"s": 8, "e": 1}))

    def test_levels(self):
        self.assertEqual([self.start.level(channel) for channel in "cde"], [1, 4, 0])
        self.assertEqual([self.start.level_in(store) for store in ("s", "e")], [5, 0])
        now = self.start >> "ann" >> "ann"
        self.assertEqual([now.level(channel) for channel in "cde"], [3, 5, 0])
        self.assertEqual(now.level_in(store="s"), 8)
        now = now >> "bob" >> "bob" >> "ann"
        self.assertEqual([now.level(channel) for channel in "cde"], [0, 4, 1])
        self.assertEqual([now.level_in("s"), now.level_in("e"), now.level(channel="e")], [4, 1, 1])

    def test_no_channel_and_no_store(self):
        self.keeps_all(NoChannel, strange_values() + NOT_HASHED + ["s", "ann", "x"], self.start.level)
        self.keeps_all(NoStore, strange_values() + NOT_HASHED + ["c", "d", "ann", "x"], self.start.level_in)

    def test_no_process(self):
        wrong = strange_values() + NOT_HASHED + ["s", "c", "cid", "ANN"]
        for call in (self.start.place, self.start.next_part, self.start.wait, lambda thing: self.start >> thing):
            self.keeps_all(NoProcess, wrong, call)


class PlacesTest(Case):
    def test_places(self):
        self.assertEqual(places(Row(), 0), [()])
        self.assertEqual(places(work(1) + work(2), 0), [(0,), (1,), ()])
        self.assertEqual(places(work(1) + work(2) * 2 + work(3), 0), [(0,), (1, 0, 0), (1, 1, 0), (2,), ()])
        self.assertEqual(places(loop("n", work(1) + loop(2, work(2))), 2), [
            (0, 0, 0), (0, 0, 1, 0, 0), (0, 0, 1, 1, 0), (0, 1, 0), (0, 1, 1, 0, 0), (0, 1, 1, 1, 0), (),
        ])
        self.assertEqual(places(loop(2, loop(1, work(1)) + work(2)) + work(3), 0), [
            (0, 0, 0, 0, 0), (0, 0, 1), (0, 1, 0, 0, 0), (0, 1, 1), (1,), (),
        ])
        self.assertEqual(places(loop(1, loop(2, loop(1, loop(1, work(1))))), 0), [
            (0, 0, 0, 0, 0, 0, 0, 0, 0), (0, 0, 0, 1, 0, 0, 0, 0, 0), (),
        ])

    def test_places_in_forever(self):
        self.assertEqual(places(work(1) + forever(work(2) + loop(2, work(3))), 0, 8), [
            (0,), (1, 0, 0), (1, 0, 1, 0, 0), (1, 0, 1, 1, 0), (1, 1, 0), (1, 1, 1, 0, 0), (1, 1, 1, 1, 0), (1, 2, 0),
        ])
        self.assertEqual(places(forever(work(2)), 0, 4), [(0, 0, 0), (0, 1, 0), (0, 2, 0), (0, 3, 0)])

    def test_what_is_passed_over(self):
        nothing = loop(0, work(1)) + loop("n-5", work(2)) + loop(3, Row()) + loop(MOST, loop(MOST, loop(0, work(1))))
        self.assertEqual(places(nothing, 5), [()])
        self.assertEqual(places(nothing, 6)[:2], [(1, 0, 0), ()])
        self.assertEqual(places(nothing + work(3), 5), [(4,), ()])
        self.assertEqual(places(work(3) + nothing, 5), [(0,), ()])
        self.assertEqual(places(loop(2, nothing + work(3) + nothing), 3), [(0, 0, 4), (0, 1, 4), ()])
        self.assertEqual(places(work(3) + forever(nothing), 4), [(0,), ()])
        self.assertEqual(places(work(3) + forever(Row()), 4), [(0,), ()])
        self.assertEqual(places(forever(loop(3, loop((1, -5), work(1)))), 5), [()])
        self.assertEqual(places(forever(nothing), 6, 3), [(0, 0, 1, 0, 0), (0, 1, 1, 0, 0), (0, 2, 1, 0, 0)])

    def test_counts_below_0(self):
        row = loop((3, -10), work(1)) + work(2)
        self.assertEqual([places(row, n)[0] for n in range(5)], [(1,), (1,), (1,), (1,), (0, 0, 0)])
        self.assertEqual(places(loop((1, -MOST), work(1)), MOST - 1), [()])

    def test_ended(self):
        for now in [alone(Row()), alone(work(1)) >> "ann", alone(loop("n", work(1))), alone(forever(loop("n", work(1))))]:
            self.assertEqual(now.place("ann"), ())
            self.assertIsNone(now.next_part("ann"))
            self.assertEqual(now.wait("ann"), ("ended", None))
            self.assertEqual(now.can(), [])

    def test_many_rounds_answer_at_once(self):
        row = loop(MOST, loop("9n+1", loop(MOST, work(1) + loop(0, work(2)) + loop(MOST, work(3)))))
        now = alone(row, MOST)
        self.assertEqual(now.place("ann"), (0, 0, 0, 0, 0, 0, 0))
        for many in range(100):
            now = now >> "ann"
            self.assertEqual(now.place("ann"), (0, 0, 0, 0, 0, 0, 2, many, 0))
        self.assertEqual(now.next_part(process="ann"), ("work", 3))

    def test_next_part(self):
        now = alone(send("c", 3) + loop(2, take("d")) + work(7))
        self.assertEqual(now.next_part("ann"), ("send", "c", 3))
        now = now >> "ann"
        self.assertEqual(now.next_part("ann"), ("take", "d", 1))
        self.assertEqual(alone(loop("n", work(7)), 1).next_part("ann"), ("work", 7))


class WaitTest(Case):
    def test_empty(self):
        net = Net({"ann": take("c", 3), "bob": send("c") * 3})
        now = begin(net, 0, Rooms({"c": 3}))
        for _ in range(3):
            self.assertEqual(now.wait("ann"), ("empty", "c"))
            self.assertEqual(now.can(), ["bob"])
            now = now >> "bob"
        self.assertIsNone(now.wait("ann"))
        self.assertEqual(now.wait(process="bob"), ("ended", None))
        self.assertEqual(now.can(), ["ann"])

    def test_full(self):
        net = Net({"ann": send("c", 2) * 3, "bob": take("c") * 6})
        for room, many in [(2, 1), (3, 1), (4, 2), (5, 2), (6, 3), (FAR, 3), (None, 3)]:
            now = begin(net, 0, Rooms({"c": room}))
            for _ in range(many):
                self.assertIsNone(now.wait("ann"))
                now = now >> "ann"
            self.assertEqual(now.wait("ann"), ("full", "c") if many < 3 else ("ended", None))

    def test_full_with_first_messages(self):
        net = Net({"ann": send("c", 2), "bob": take("c")}, {"c": 3})
        now = begin(net, 0, Rooms({"c": 4}))
        self.assertEqual(now.wait("ann"), ("full", "c"))
        self.assertIsNone((now >> "bob").wait("ann"))
        self.assertIsNone(begin(net, 0, Rooms({"c": 5})).wait("ann"))

    def test_shared_store(self):
        net = Net({"ann": send("c") + send("d", 2) + send("c"), "bob": take("c"), "cid": take("d")},
                  None, {"s": ["d", "c"]})
        now = begin(net, 0, Rooms({"s": 3})) >> "ann" >> "ann"
        self.assertEqual(now.wait("ann"), ("full", "s"))
        self.assertIsNone((now >> "cid").wait("ann"))
        self.assertIsNone((now >> "bob").wait("ann"))

    def test_work_never_waits(self):
        self.assertIsNone(alone(work(99)).wait("ann"))
        self.assertEqual(alone(work(99)).can(), ["ann"])

    def test_can(self):
        net = Net({"dan": work(1), "ann": send("c"), "cid": take("c"), "bob": work(1)})
        now = begin(net, 0, Rooms({"c": 1}))
        self.assertEqual(now.can(), ["ann", "bob", "dan"])
        self.assertEqual((now >> "ann").can(), ["bob", "cid", "dan"])
        found = now.can()
        found.clear()
        self.assertEqual(now.can(), ["ann", "bob", "dan"])

    def test_refused(self):
        net = Net({"ann": send("c") * 2, "bob": take("d"), "cid": work(1)})
        now = begin(net, 0, Rooms({"c": 1, "d": 1})) >> "ann" >> "cid"
        for process, word, value in [("ann", "full", "c"), ("bob", "empty", "d"), ("cid", "ended", None)]:
            error = self.fails(Refused, lambda one: now >> one, process)
            self.assertEqual([error.word, error.value], [word, value])
            self.assertEqual(now.wait(process), (word, value))


class StepTest(Case):
    def test_the_moment_ahead_stays(self):
        net = Net({"ann": loop(2, send("c")), "bob": take("c")})
        start = begin(net, 0, Rooms({"c": 1}))
        later = start >> "ann"
        self.assertEqual([start.place("ann"), start.level("c"), start.can()], [(0, 0, 0), 0, ["ann"]])
        self.assertEqual([later.place("ann"), later.level("c"), later.can()], [(0, 1, 0), 1, ["bob"]])
        self.fails(Refused, lambda: later >> "ann")
        self.assertEqual([later.place("ann"), later.level("c"), later.can()], [(0, 1, 0), 1, ["bob"]])
        self.assertEqual(start >> "ann", later)
        self.assertEqual([later.net, later.n, later.rooms], [net, 0, Rooms({"c": 1})])

    def test_equal(self):
        net = Net({"ann": send("c"), "bob": work(1), "cid": take("c")})
        start = begin(net, 0, Rooms({"c": 1}))
        self.assertTrue(start == begin(net, 0, Rooms({"c": 1})))
        self.assertTrue(start == begin(Net(dict([(name, net.row(name)) for name in net.processes])), 0, Rooms({"c": 1})))
        self.assertTrue((start >> "ann" >> "bob") == (start >> "bob" >> "ann"))
        self.assertFalse((start >> "ann" >> "bob") != (start >> "bob" >> "ann"))
        other = Net({"ann": send("c"), "bob": work(2), "cid": take("c")})
        for moment in [start >> "ann", start >> "bob", begin(net, 1, Rooms({"c": 1})), begin(net, 0, Rooms({"c": 2})),
                       begin(net, 0, Rooms({"c": None})), begin(other, 0, Rooms({"c": 1}))]:
            self.assertFalse(start == moment)
            self.assertTrue(start != moment)

    def test_equal_by_levels(self):
        row = loop(2, take("c"))
        one = begin(Net({"ann": row}, {"c": 1}), 0, Rooms({"c": 2}))
        other = begin(Net({"ann": row}, {"c": 2}), 0, Rooms({"c": 2}))
        self.assertFalse(one == other)
        self.assertFalse((one >> "ann") == (other >> "ann"))

    def test_equal_to_nothing_else(self):
        start = alone(work(1))
        for other in [None, 1, "moment", (), start.net, start.rooms, object()]:
            self.assertFalse(start == other)
            self.assertTrue(start != other)

    def test_example(self):
        net = Net({"ann": loop("n", send("c")) + send("d"), "bob": take("d") + loop("n", take("c"))})
        now = begin(net, 3, Rooms({"c": 2, "d": 1})) >> "ann" >> "ann"
        self.assertEqual(
            [net.stores, net.least_room("c"), now.level("c"), now.place("ann"), now.wait("ann"), now.wait("bob"), now.can()],
            [("c", "d"), 1, 2, (0, 2, 0), ("full", "c"), ("empty", "d"), []])


class ByHandTest(Case):
    """Each moment of many runs is looked at against the document's own words, round by round."""

    def test_programs(self):
        for chance in chances(300, 1):
            net = chance_net(chance)
            n = chance.randint(0, 3)
            for process in net.processes:
                with self.subTest(row=str(net.row(process)), n=n):
                    expected = list(walk(net.row(process).parts, n))[:200]
                    single = Net({process: net.row(process)}, {c: 99 for c in net.channels if net.taker(c) == process})
                    now = begin(single, n, without_limit(single))
                    for part, place in expected:
                        if now.wait(process) is not None:
                            break
                        self.assertEqual([now.next_part(process), now.place(process)], [part, place])
                        now = now >> process
                    else:
                        self.assertEqual(now.place(process) == (), len(expected) < 200)

    def test_runs(self):
        for chance in chances(300, 2):
            net = chance_net(chance, 0.2)
            n = chance.randint(0, 3)
            rooms = chance_rooms(chance, net)
            self.check_run(chance, net, n, rooms)

    def check_run(self, chance, net, n, rooms):
        now = begin(net, n, rooms)
        programs = {process: walk(net.row(process).parts, n) for process in net.processes}
        standing = {process: next(programs[process], None) for process in net.processes}
        levels = {channel: net.first(channel) for channel in net.channels}
        for _ in range(60):
            expected = {process: wait_by_hand(net, rooms, standing[process], levels) for process in net.processes}
            able = [process for process in net.processes if expected[process] is None]
            self.assertEqual({channel: now.level(channel) for channel in net.channels}, levels)
            for process in net.processes:
                part, place = standing[process] or (None, ())
                self.assertEqual([now.next_part(process), now.place(process), now.wait(process)],
                                 [part, place, expected[process]])
            self.assertEqual(now.can(), able)
            if not able:
                break
            process = chance.choice(able)
            part = standing[process][0]
            if part[0] != "work":
                levels[part[1]] += part[2] if part[0] == "send" else -part[2]
            standing[process] = next(programs[process], None)
            now = now >> process


def wait_by_hand(net, rooms, standing, levels):
    if standing is None:
        return ("ended", None)
    part = standing[0]
    if part[0] == "take" and levels[part[1]] < part[2]:
        return ("empty", part[1])
    if part[0] == "send":
        store = net.store_of(part[1])
        level = sum(levels[channel] for channel in net.channels_in(store))
        if rooms[store] is not None and level + part[2] > rooms[store]:
            return ("full", store)
    return None


class LeastRoomTest(Case):
    def test_each_step_is_possible_in_an_empty_store_with_least_room(self):
        net = Net({"ann": send("c", 9) + send("c", 4), "bob": take("c", 5) + take("c", 4) * 2})
        now = begin(net, 0, least_possible(net))
        for process in ["ann", "bob", "bob", "ann", "bob"]:
            now = now >> process
        self.assertEqual([now.place("ann"), now.place("bob"), now.level("c")], [(), (), 0])


if __name__ == "__main__":
    unittest.main()

"""[16], [17], [18] and [4] (a), (d): runs to the end, however far it is."""

import unittest

from leastrooms.courses import Course, follow, movers_of
from leastrooms.ends import end_of, knots, lost
from leastrooms.errors import BadNet, BadNumber, BadRooms, NoProcess, Small, TooLong
from leastrooms.moments import begin
from leastrooms.nets import Net
from leastrooms.rooms import Rooms, without_limit
from leastrooms.rows import Row, forever, loop, send, take, work
from leastrooms.runs import run
from leastrooms.walks import MOST_MOVES, Walk
from tests.helping import Case, chance_net, chance_rooms, chances, crossing_net, strange_values

FAR = 10 ** 30
MOST = 10 ** 200


def meeting():
    return Net({"ann": loop("n", send("c")) + send("d"), "bob": take("d") + loop("n", take("c"))})


class RunTest(Case):
    def look_at(self, found, net, n, rooms):
        """What holds of each run."""
        start = begin(net, n, rooms)
        self.assertIsInstance(found.course, Course)
        self.assertEqual(follow(start, found.course), found.moment)
        self.assertIs(found.is_endless, found.course.total_steps is None)
        self.assertEqual(found.movers, movers_of(found.course))
        self.assertEqual(found.lost, lost(found.moment, found.movers))
        self.assertEqual(found.knots, knots(found.moment, found.movers))
        if not found.is_endless:
            self.assertEqual(found.moment.can(), [])
        waits = []
        for process in net.processes:
            if process in found.movers:
                self.assertEqual(found.state(process), "moves")
            else:
                self.assertEqual(found.state(process), found.moment.wait(process)[0])
                waits.append(found.state(process))
        self.assertIs(found.is_enough, "full" not in waits)

    def test_the_example(self):
        far = run(meeting(), FAR, Rooms({"c": 10 ** 29, "d": 1}))
        self.assertEqual([far.is_enough, far.moment.level("c") == 10 ** 29, far.knots, far.state("bob")],
                         [False, True, [["ann", "bob"]], "empty"])
        self.assertEqual(far.state("ann"), "full")
        self.look_at(far, meeting(), FAR, Rooms({"c": 10 ** 29, "d": 1}))

    def test_a_run_to_the_end(self):
        found = run(meeting(), 3, Rooms({"c": 3, "d": 1}))
        self.assertEqual([found.is_enough, found.is_endless, found.movers, found.lost, found.knots],
                         [True, False, [], ["ann", "bob"], []])
        self.assertEqual([found.state("ann"), found.state("bob")], ["ended", "ended"])
        self.assertEqual(found.moment, end_of(begin(meeting(), 3, Rooms({"c": 3, "d": 1}))))
        self.assertEqual(sorted(found.course.steps()), ["ann"] * 4 + ["bob"] * 4)

    def test_a_net_that_does_nothing(self):
        found = run(Net({"ann": Row(), "bob": loop("n", work(1)), "cid": take("c")}), 0, Rooms({"c": 1}))
        self.assertEqual(found.course, Course())
        self.assertEqual([found.is_enough, found.is_endless, found.lost], [True, False, ["ann", "bob", "cid"]])
        self.assertEqual([found.state(process) for process in ("ann", "bob", "cid")], ["ended", "ended", "empty"])

    def test_far_loops(self):
        for n in [10 ** 12, FAR]:
            for row, steps in [(loop("9n", work(1)), 9 * n), (loop(FAR, loop("n", work(1)) + work(2)), FAR * (n + 1)),
                               (loop("n", loop("n", loop("n", loop("n", work(3))))), n ** 4)]:
                net = Net({"ann": row})
                found = run(net, n, Rooms({}))
                self.assertEqual(found.course.total_steps, steps)
                self.assertEqual(found.state("ann"), "ended")
                self.look_at(found, net, n, Rooms({}))

    def test_far_runs_of_several(self):
        net = Net({"ann": loop("n", send("c", 3)), "bob": loop("n", loop(3, take("c")) + send("d", 2)),
                   "cid": loop("2n", take("d") + work(4))})
        for rooms in [Rooms({"c": 3, "d": 2}), Rooms({"c": 1000, "d": 999}), Rooms({"c": FAR, "d": None}), without_limit(net)]:
            found = run(net, FAR, rooms)
            self.assertEqual(found.course.total_steps, FAR * (1 + 4 + 4))
            self.assertTrue(found.is_enough)
            self.look_at(found, net, FAR, rooms)

    def test_without_end(self):
        net = Net({"ann": loop("n", send("c")) + forever(work(1) + send("d")), "bob": forever(take("d") + send("e")),
                   "cid": take("e") + take("c") + loop("n", take("c")), "dan": take("x") + take("g"),
                   "eva": send("f") * 2, "fay": take("z") + take("f")})
        found = run(net, FAR, Rooms({"c": FAR, "d": 1, "e": None, "f": 1, "g": 1, "x": 1, "z": 1}))
        self.look_at(found, net, FAR, Rooms({"c": FAR, "d": 1, "e": None, "f": 1, "g": 1, "x": 1, "z": 1}))

    def test_movers_lost_and_knots(self):
        net = Net({"ann": forever(send("a") + take("b")), "bob": forever(take("a") + send("b")),
                   "cid": take("x"), "dan": send("d") * 2 + take("y"), "eva": take("e") + take("d"),
                   "fay": send("f") + send("f") + send("e"), "gus": take("w") + take("f")})
        rooms = Rooms({store: 1 for store in net.stores})
        found = run(net, 0, rooms)
        self.assertEqual([found.is_endless, found.is_enough], [True, False])
        self.assertEqual([found.movers, found.lost], [["ann", "bob"], ["cid", "gus"]])
        self.assertEqual(found.knots, [["fay"]])
        self.assertEqual([found.state(process) for process in net.processes],
                         ["moves", "moves", "empty", "full", "empty", "full", "empty"])
        self.look_at(found, net, 0, rooms)

    def test_a_store_that_holds_more_and_more(self):
        net = Net({"ann": forever(send("c", 2)), "bob": forever(take("c") + work(1))})
        wide = run(net, 0, Rooms({"c": None}))
        self.assertEqual([wide.is_endless, wide.movers, wide.is_enough], [True, ["ann", "bob"], True])
        for room in [2, 7, MOST]:
            found = run(net, 0, Rooms({"c": room}))
            self.assertEqual([found.movers, found.is_enough, found.knots], [["ann", "bob"], True, []])
            self.look_at(found, net, 0, Rooms({"c": room}))
        alone = Net({"ann": forever(send("c"))})
        self.assertEqual(run(alone, 0, Rooms({"c": None})).state("ann"), "moves")
        full = run(alone, 0, Rooms({"c": MOST}))
        self.assertEqual([full.state("ann"), full.moment.level("c"), full.knots], ["full", MOST, [["ann"]]])

    def test_who_waits_for_a_mover(self):
        net = Net({"ann": send("c") + forever(work(1)), "bob": take("c") * 2, "cid": send("d") * 2,
                   "dan": take("d") + forever(work(2))})
        found = run(net, 0, Rooms({"c": 1, "d": 1}))
        self.assertEqual([found.movers, found.lost, found.is_enough], [["ann", "dan"], ["bob", "cid"], True])
        less = Net({"cid": send("d") * 3, "dan": take("d") + forever(work(2))})
        stuck = run(less, 0, Rooms({"d": 1}))
        self.assertEqual([stuck.movers, stuck.is_enough, stuck.knots, stuck.state("cid")],
                         [["dan"], False, [["cid"]], "full"])

    def test_first_messages_that_go_round(self):
        net = Net({"ann": forever(take("a") + send("b")), "bob": forever(take("b") + send("a"))}, {"a": 3})
        found = run(net, 0, Rooms({"a": 3, "b": 1}))
        self.assertEqual([found.movers, found.is_enough], [["ann", "bob"], True])
        none = run(Net({"ann": forever(take("a") + send("b")), "bob": forever(take("b") + send("a"))}), 0,
                   Rooms({"a": 1, "b": 1}))
        self.assertEqual([none.movers, none.lost, none.is_enough], [[], ["ann", "bob"], True])

    def test_each_list_is_new(self):
        net = Net({"ann": send("c") * 2, "bob": take("x"), "cid": forever(work(1))})
        found = run(net, 0, Rooms({"c": 1, "x": 1}))
        found.movers.append("x")
        found.lost.append("x")
        found.knots[0].append("x")
        found.knots.append([])
        self.assertEqual([found.movers, found.lost, found.knots], [["cid"], ["bob"], [["ann"]]])
        self.assertEqual(found.state("cid"), "moves")

    def test_wrong_arguments(self):
        net = meeting()
        rooms = Rooms({"c": 1, "d": 1})
        self.keeps_all(BadNet, strange_values(), lambda thing: run(thing, -1, None))
        self.keeps_all(BadNumber, [value for value in strange_values()] + [FAR + 1, 1.0],
                       lambda thing: run(net, thing, None))
        self.keeps_all(BadRooms, strange_values() + [Rooms({}), Rooms({"c": 1}), {"c": 1, "d": 1}],
                       lambda thing: run(net, 0, thing))
        self.keeps_equal(Small, "c", run, net, 0, Rooms({"c": 0, "d": 0}))
        self.keeps_all(NoProcess, strange_values() + ["zed"], run(net, 0, rooms).state)

    def test_runs_by_chance(self):
        endless = 0
        for chance in chances(700, 51):
            net = chance_net(chance, chance.choice((0, 0, 0.5, 1)))
            n, rooms = chance.choice((0, 1, 2, 3, 5)), chance_rooms(chance, net)
            found = run(net, n, rooms)
            self.look_at(found, net, n, rooms)
            if found.is_endless:
                endless += 1
                self.look_at_endless(found, net, n, rooms)
            else:
                self.assertEqual(found.moment, end_of(begin(net, n, rooms), 10 ** 6))
        self.assertGreater(endless, 100)

    def look_at_endless(self, found, net, n, rooms):
        """A long while on, the movers still move, and nobody else ever did anything more."""
        now = begin(net, n, rooms)
        for count, process in enumerate(found.course.steps()):
            if count == 600:
                break
            now = now >> process
        self.assertEqual([process for process in now.can() if process not in found.movers], [])
        for process in net.processes:
            if process not in found.movers:
                self.assertEqual(now.place(process), found.moment.place(process))
                self.assertEqual(now.wait(process), found.moment.wait(process))

    def test_the_order_of_the_keys_means_nothing(self):
        for chance in chances(40, 53):
            net = crossing_net(chance, chance.random() < 0.5)
            other = Net({process: net.row(process) for process in reversed(net.processes)}, None,
                        {store: list(reversed(net.channels_in(store))) for store in net.stores if store not in net.channels})
            rooms = chance_rooms(chance, net)
            one, two = run(net, 2, rooms), run(other, 2, rooms)
            self.assertEqual(one.course, two.course)
            self.assertEqual(one.moment, two.moment)

    def test_far_runs_by_chance(self):
        for chance in chances(120, 52):
            net = crossing_net(chance, chance.random() < 0.3)
            n = chance.choice((10 ** 12, FAR, FAR - 3))
            rooms = Rooms({store: chance.choice((None, net.least_room(store), n, n + 1, 5)) for store in net.stores})
            self.look_at(run(net, n, rooms), net, n, rooms)


class MethodTest(Case):
    def test_rounds_of_many_steps(self):
        single = Row([("work", 1)] * 59)
        found = run(Net({"ann": single * "n"}), FAR, Rooms({}))
        self.assertEqual(found.course.total_steps, 59 * FAR)
        self.assertEqual(run(Net({"ann": Row([("work", 1)] * 60)}), 0, Rooms({})).course.content, ("ann",) * 60)
        mixed = Net({"ann": (Row([("work", 1)] * 40) + loop(30, work(1) + work(2))) * 10 ** 6})
        self.assertEqual(run(mixed, 0, Rooms({})).course.total_steps, 10 ** 8)

    def test_rounds_that_are_longer_than_the_method_looks_back(self):
        # 86 steps that nothing makes shorter: more than the 60 places of the method, but not too far.
        net = Net({"ann": (loop(2, Row([("work", 1)] * 29)) + Row([("work", 2)] * 28)) * "n"})
        self.fails(TooLong, Walk, begin(net, FAR, Rooms({})), False)
        self.assertEqual(run(net, FAR, Rooms({})).course.total_steps, 86 * FAR)

    def test_levels_that_come_back_only_behind_an_item(self):
        net = Net({"ann": loop("3n", send("c", 2)), "bob": loop("2n", take("c", 3))})
        for room in range(3, 30):
            found = run(net, FAR, Rooms({"c": room}))
            self.assertEqual([found.state("ann"), found.state("bob"), found.moment.level("c")],
                             ["ended", "ended", 0] if room > 3 else ["full", "empty", 2])

    def test_processes_that_run_ahead_by_more_and_more(self):
        # In each turn both go one step less far than in the one ahead, so no two cycles are alike.
        net = Net({"ann": (loop("n", send("q")) + loop("n", take("r")) + take("p") * 2) * "n",
                   "bob": (loop("n", send("r")) + send("p") * 2 + loop("n", take("q"))) * "n"})
        rooms = Rooms({"p": 3, "q": FAR, "r": FAR - 1})
        for is_eager in (False, True):
            self.fails(TooLong, Walk, begin(net, FAR, rooms), is_eager)
        found = run(net, FAR, rooms)
        self.assertEqual([found.state("ann"), found.state("bob")], ["ended", "ended"])
        self.assertEqual(found.course.total_steps, 4 * FAR * (FAR + 1))
        self.assertEqual(follow(begin(net, FAR, rooms), found.course), found.moment)

    def test_too_long(self):
        # Loops of two rounds are never made an item, so a round has 400 steps; that is too far to look back.
        net = Net({"ann": loop(2, loop(2, loop(2, Row([("work", 1)] * 50)))) * "n"})
        self.assertEqual(run(net, 5, Rooms({})).course.total_steps, 2000)
        self.assertEqual(self.fails(TooLong, run, net, 6, Rooms({})).args, ())
        self.fails(TooLong, run, net, FAR, Rooms({}))

    def test_moves_up_to_the_last_one(self):
        # Loops of two rounds are never made an item: K is at least 2, and the last round leaves the loop.
        row = loop(2, loop(2, loop(2, Row([("work", 1)] * 31)))) + work(2) + work(3)
        programs = {process: row for process in ("ann", "bob", "cid", "dan", "eva", "fay", "gus")}
        found = run(Net({**programs, "hal": row}), 0, Rooms({}))
        self.assertEqual([found.course.total_steps, found.course.size], [2000, 2000])
        self.fails(TooLong, run, Net({**programs, "hal": row + work(1)}), 0, Rooms({}))

    def test_no_course_has_more_items_than_moves(self):
        for chance in chances(100, 61):
            net = chance_net(chance, 0.5)
            walk = Walk(begin(net, 3, chance_rooms(chance, net)), chance.random() < 0.5, chance.random() < 0.3)
            self.assertEqual(Course(walk.told_items()).size, walk.many)
            self.assertLessEqual(walk.many, MOST_MOVES)

    def test_all_kinds_of_walks_end_alike(self):
        for chance in chances(150, 62):
            net = chance_net(chance, 0.4)
            start = begin(net, chance.randint(0, 4), chance_rooms(chance, net))
            walks = [Walk(start, False), Walk(start, True), Walk(start, False, True), Walk(start, True, True)]
            for walk in walks:
                self.assertEqual(follow(start, Course(walk.told_items())), walk.moment)
                self.assertEqual(walk.moving, walks[0].moving)
                for process in net.processes:
                    if process not in walk.moving:
                        self.assertEqual(walk.moment.place(process), walks[0].moment.place(process))
                if not walk.moving:
                    self.assertEqual(walk.moment, walks[0].moment)


if __name__ == "__main__":
    unittest.main()

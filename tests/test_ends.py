"""[12] and [13], [4] (a) and (c), and the general rules of [3] for the ends of runs."""

import itertools
import unittest

from leastrooms.ends import corner_of, end_of, is_knot, knots, lost, steps_by_turns
from leastrooms.errors import BadGroup, BadNumber, NoKnot, TooLong
from leastrooms.moments import begin
from leastrooms.nets import Net
from leastrooms.rooms import Rooms, least_possible, without_limit
from leastrooms.rows import Row, forever, loop, send, take, work
from tests.helping import Case, Strange, chance_net, chance_rooms, chances, strange_values

MOST = 10 ** 30
CALLS = [lost, knots, lambda moment, movers: is_knot(moment, ["ann"], movers),
         lambda moment, movers: corner_of(moment, ["ann"], movers)]


def first_moment(programs, first=None, stores=None, rooms=None, n=0):
    """The first moment of a net; its rooms are the least ones but for those that are told."""
    net = Net(programs, first, stores)
    least = least_possible(net)
    for store, room in (rooms or {}).items():
        least = least.raised(store, room)
    return begin(net, n, least)


def end(programs, first=None, stores=None, rooms=None, n=0):
    return end_of(first_moment(programs, first, stores, rooms, n))


def behind(moment, steps):
    for process in steps:
        moment = moment >> process
    return moment


class StepsTest(Case):
    def test_turn_by_turn(self):
        start = first_moment({"cid": work(1), "ann": work(1) * 3, "bob": work(1) * 2})
        self.assertEqual(list(steps_by_turns(start)), ["ann", "bob", "cid", "ann", "bob", "ann"])
        self.assertEqual(start.place("ann"), (0, 0, 0))

    def test_steps_lead_to_the_end(self):
        for chance in chances(100, 3):
            net = chance_net(chance)
            start = begin(net, chance.randint(0, 3), chance_rooms(chance, net))
            steps = list(itertools.islice(steps_by_turns(start), 500))
            now = behind(start, steps)
            if len(steps) < 500:
                self.assertEqual(now.can(), [])
                self.assertEqual(end_of(start, len(steps)), now)

    def test_each_that_can_has_its_turn(self):
        start = first_moment({"ann": forever(work(1)), "bob": forever(work(1)), "cid": take("c") + work(1)})
        self.assertEqual(list(itertools.islice(steps_by_turns(start), 6)), ["ann", "bob"] * 3)
        pipe = first_moment({"ann": send("c") * 3, "bob": take("c") * 3}, rooms={"c": 3})
        self.assertEqual(sorted(steps_by_turns(pipe)), ["ann"] * 3 + ["bob"] * 3)

    def test_one_that_is_helped_goes_on(self):
        start = first_moment({"ann": take("d") + send("c"), "bob": take("c"), "cid": work(1) * 3 + send("d")})
        self.assertEqual(list(steps_by_turns(start)), ["cid"] * 4 + ["ann", "ann", "bob"])
        start = first_moment({"ann": send("c") * 3, "bob": work(1) * 2 + take("c") * 3})
        self.assertEqual(len(list(steps_by_turns(start))), 8)

    def test_no_steps(self):
        self.assertEqual(list(steps_by_turns(first_moment({"ann": take("c"), "bob": Row()}))), [])

    def test_without_end(self):
        start = first_moment({"ann": forever(send("c")), "bob": loop(MOST, take("c"))})
        steps = list(itertools.islice(steps_by_turns(start), 1000))
        self.assertEqual([steps.count("ann"), steps.count("bob")], [500, 500])
        self.assertEqual(behind(start, steps).place("bob"), (0, 500, 0))


class EndTest(Case):
    def test_end(self):
        now = end({"ann": send("c") * 7, "bob": take("c") * 5}, rooms={"c": 1})
        self.assertEqual([now.place("ann"), now.place("bob"), now.level("c"), now.can()], [(0, 6, 0), (), 1, []])
        self.assertEqual(now.wait("ann"), ("full", "c"))

    def test_the_start_stays(self):
        start = first_moment({"ann": send("c") * 2}, rooms={"c": 2})
        now = end_of(start)
        self.assertEqual([start.level("c"), start.place("ann"), start.can()], [0, (0, 0, 0), ["ann"]])
        self.assertEqual([now.level("c"), now.place("ann"), now.can()], [2, (), []])
        self.assertEqual(end_of(now), now)
        self.assertEqual(end_of(start), now)

    def test_most(self):
        start = first_moment({"ann": work(1) * 5, "bob": work(1) * 3})
        self.assertEqual(end_of(start, 8).place("ann"), ())
        self.assertEqual(end_of(start, most=9).place("ann"), ())
        for most in range(8):
            self.fails(TooLong, end_of, start, most)

    def test_most_at_zero(self):
        still = first_moment({"ann": take("c"), "bob": Row()})
        self.assertEqual(end_of(still, 0), still)
        self.fails(TooLong, end_of, first_moment({"ann": work(1)}), 0)

    def test_most_without_a_word(self):
        self.assertEqual(end({"ann": loop(10000, work(1))}).place("ann"), ())
        self.fails(TooLong, end_of, first_moment({"ann": loop(10001, work(1))}))
        self.assertEqual(end_of(first_moment({"ann": loop(10001, work(1))}), 10001).place("ann"), ())

    def test_most_at_a_million(self):
        start = first_moment({"ann": loop(10 ** 6, work(1))})
        self.assertEqual(end_of(start, 10 ** 6).place("ann"), ())
        self.fails(TooLong, end_of, first_moment({"ann": forever(work(1))}), 10 ** 6)

    def test_far_and_endless_loops(self):
        for row in [forever(send("c") + take("d")), loop(MOST, send("c") + take("d"))]:
            other = Row(tuple((("take" if word == "send" else "send"), channel, k) for word, channel, k in row.parts[0][-1]))
            self.fails(TooLong, end_of, first_moment({"ann": row, "bob": other * MOST}), 5000)

    def test_wrong_most(self):
        start = first_moment({"ann": work(1)})
        wrong = strange_values() + [10 ** 6 + 1, "5", 5.0, (5,)]
        self.keeps_all(BadNumber, wrong, lambda most: end_of(start, most))

    def test_any_order_comes_to_the_same_end(self):
        for chance in chances(200, 4):
            net = chance_net(chance)
            start = begin(net, chance.randint(0, 3), chance_rooms(chance, net))
            expected = end_of(start)
            for _ in range(3):
                now = start
                while now.can():
                    now = now >> chance.choice(now.can())
                self.assertTrue(now == expected)

    def test_a_possible_step_stays_possible(self):
        for chance in chances(100, 5):
            net = chance_net(chance, 0.3)
            now = begin(net, chance.randint(0, 3), chance_rooms(chance, net))
            for _ in range(40):
                able = now.can()
                if not able:
                    break
                process = chance.choice(able)
                now = now >> process
                self.assertEqual([one for one in able if one != process and one not in now.can()], [])


class LostTest(Case):
    def test_ended_and_without_sender(self):
        now = first_moment({"ann": Row(), "bob": take("c"), "cid": work(1), "dan": send("d"), "eva": take("d")})
        self.assertEqual(lost(now), ["ann", "bob"])
        self.assertEqual(lost(moment=now, movers=()), ["ann", "bob"])

    def test_behind_lost_ones(self):
        programs = {"ann": take("x") + send("c"), "bob": take("c") + send("d"), "cid": take("d"), "dan": take("e"),
                    "eva": work(1) + send("e")}
        self.assertEqual(lost(first_moment(programs)), ["ann", "bob", "cid"])
        self.assertEqual(lost(first_moment(programs) >> "eva"), ["ann", "bob", "cid"])
        self.assertEqual(lost(end(programs)), ["ann", "bob", "cid", "dan", "eva"])

    def test_ended_sender(self):
        now = end({"ann": send("c"), "bob": take("c") * 2})
        self.assertEqual(lost(now), ["ann", "bob"])

    def test_a_ring_is_lost_together(self):
        ring = {"ann": take("c") + send("d"), "bob": take("d") + send("e"), "cid": take("e") + send("c")}
        self.assertEqual(lost(first_moment(ring)), ["ann", "bob", "cid"])
        self.assertEqual(lost(first_moment({**ring, "dan": take("f"), "eva": work(1) + send("f")})), ["ann", "bob", "cid"])
        self.assertEqual(lost(first_moment(ring, {"e": 1})), [])
        two = {"ann": take("c") + send("d"), "bob": take("d") + send("c")}
        self.assertEqual(lost(first_moment(two)), ["ann", "bob"])
        self.assertEqual(knots(first_moment(two)), [])

    def test_who_waits_for_room_is_not_lost(self):
        now = end({"ann": send("c") * 2 + send("d"), "bob": take("d") + take("c")})
        self.assertEqual(lost(now), [])
        alone = end({"ann": send("c") * 2})
        self.assertEqual([lost(alone), knots(alone)], [[], [["ann"]]])

    def test_movers(self):
        now = first_moment({"ann": forever(work(1)) , "bob": take("c"), "cid": take("x"), "dan": take("d") + send("c"),
                            "eva": loop(0, send("d")) + forever(work(1))})
        self.assertEqual(lost(now), ["cid"])
        self.assertEqual(lost(now, ["ann", "eva"]), ["bob", "cid", "dan"])
        self.assertEqual(lost(now, ("eva",)), ["bob", "cid", "dan"])
        self.assertEqual(lost(now, ["ann"]), ["cid"])
        self.assertEqual(lost(now, ["cid"]), [])
        self.assertEqual(lost(now, ["cid", "eva"]), ["bob", "dan"])
        self.assertEqual(lost(now, []), ["cid"])

    def test_movers_may_have_ended_or_wait(self):
        now = first_moment({"ann": Row(), "bob": take("c") + send("d"), "cid": take("d")})
        self.assertEqual(lost(now), ["ann", "bob", "cid"])
        self.assertEqual(lost(now, ["ann", "bob"]), ["cid"])
        self.assertEqual(lost(now, ["ann", "bob", "cid"]), [])

    def test_new_list(self):
        now = first_moment({"ann": Row()})
        lost(now).clear()
        self.assertEqual(lost(now), ["ann"])
        self.assertIs(type(lost(now)), list)


class KnotsTest(Case):
    def test_two_that_wait_for_each_other(self):
        now = end({"ann": send("c") * 3 + send("d"), "bob": take("d") + take("c") * 3}, rooms={"c": 2})
        self.assertEqual(knots(now), [["ann", "bob"]])
        self.assertTrue(is_knot(now, ["ann", "bob"]))
        self.assertEqual(corner_of(now, ["ann", "bob"]), {"c": 2})

    def test_examples(self):
        net = Net({"ann": loop("n", send("c")) + send("d"), "bob": take("d") + loop("n", take("c")), "cid": take("x")})
        now = begin(net, 3, Rooms({"c": 2, "d": 1, "x": 1})) >> "ann" >> "ann"
        self.assertEqual([knots(now), lost(now), corner_of(now, ["ann", "bob"])], [[["ann", "bob"]], ["cid"], {"c": 2}])
        after = end_of(begin(Net({"ann": send("c") * 3, "bob": take("c")}), 0, Rooms({"c": 1})))
        self.assertEqual([knots(after), lost(after), corner_of(after, ["ann"])], [[["ann"]], ["bob"], {"c": 1}])

    def test_one_whose_taker_is_lost_or_missing(self):
        now = end({"ann": send("c") * 3, "bob": send("d") * 3, "cid": take("c")})
        self.assertEqual(knots(now), [["ann"], ["bob"]])
        self.assertEqual(lost(now), ["cid"])
        for group in (["ann"], ["bob"], ["ann", "bob"]):
            self.assertIs(is_knot(now, group), True)
        self.assertIs(is_knot(now, ["cid"]), False)
        self.assertIs(is_knot(now, ["ann", "cid"]), False)

    def test_knots_within_greater_groups(self):
        now = end({"ann": send("c") * 2 + send("d"), "bob": take("d") + take("c") + send("e"),
                   "cid": take("e") + take("f"), "dan": send("f") * 2})
        self.assertEqual(knots(now), [["ann", "bob"]])
        for group, expected in [
            (["ann", "bob"], True), (["ann", "bob", "cid"], True), (["ann", "bob", "cid", "dan"], True), (["ann"], False),
            (["bob"], False), (["cid"], False), (["cid", "dan"], False), (["ann", "bob", "dan"], False), (["dan"], False),
        ]:
            self.assertIs(is_knot(now, group), expected, group)
        self.assertEqual(corner_of(now, ["ann", "bob", "cid"]), {"c": 1})
        self.assertEqual(corner_of(now, ["ann", "bob", "cid", "dan"]), {"c": 1, "f": 1})

    def test_several_knots(self):
        programs = {}
        for one, other, channel, signal in [("ann", "eva", "c", "d"), ("bob", "dan", "e", "f")]:
            programs[one] = send(channel) * 2 + send(signal)
            programs[other] = take(signal) + take(channel)
        now = end(programs)
        self.assertEqual(knots(now), [["ann", "eva"], ["bob", "dan"]])
        self.assertIs(is_knot(now, ["ann", "bob", "dan", "eva"]), True)
        self.assertEqual(corner_of(now, ["ann", "bob", "dan", "eva"]), {"c": 1, "e": 1})

    def test_a_ring_of_full_stores(self):
        now = end({"ann": send("c") * 2 + take("e") * 2, "bob": send("d") * 2 + take("c") * 2,
                   "cid": send("e") * 2 + take("d") * 2})
        self.assertEqual(knots(now), [["ann", "bob", "cid"]])
        self.assertEqual(corner_of(now, ["ann", "bob", "cid"]), {"c": 1, "d": 1, "e": 1})
        self.assertIs(is_knot(now, ["ann", "bob"]), False)

    def test_who_can_do_a_step_is_in_no_knot(self):
        now = first_moment({"ann": take("c"), "bob": work(1) + send("c"), "cid": send("d") * 2, "dan": work(1) + take("d")})
        now = now >> "cid"
        self.assertEqual([knots(now), lost(now)], [[], []])
        for group in (["ann"], ["bob"], ["ann", "bob"], ["cid"], ["dan"], ["cid", "dan"]):
            self.assertIs(is_knot(now, group), False)

    def test_a_knot_while_others_go_on(self):
        now = first_moment({"ann": send("c") * 2, "bob": forever(work(1))}) >> "ann"
        self.assertEqual(now.can(), ["bob"])
        self.assertEqual(knots(now), [["ann"]])

    def test_shared_stores(self):
        stores = {"s": ["c", "d"]}
        full = {"ann": send("c") + send("d") + send("c") + send("e"), "bob": take("e") + take("c"), "cid": take("d", 2)}
        now = end(full, None, stores, {"s": 3})
        self.assertEqual([now.wait("ann"), now.level_in("s")], [("ended", None), 2])
        now = end(full, None, stores, {"s": 2})
        self.assertEqual([now.level("c"), now.level("d"), now.wait("ann")], [1, 1, ("full", "s")])
        self.assertEqual([knots(now), lost(now)], [[["ann", "bob", "cid"]], []])
        self.assertEqual(corner_of(now, ["ann", "bob", "cid"]), {"s": 2})
        self.assertIs(is_knot(now, ["ann", "bob"]), False)
        self.assertIs(is_knot(now, ["ann", "cid"]), False)

    def test_shared_store_with_a_channel_that_has_nothing(self):
        stores = {"s": ["c", "d"]}
        now = end({"ann": send("c", 2) + send("d") + send("e"), "bob": take("e") + take("c"), "cid": take("d") + take("d")},
                  None, stores)
        self.assertEqual(knots(now), [["ann", "bob"]])
        self.assertEqual(corner_of(now, ["ann", "bob"]), {"s": 2})
        self.assertIs(is_knot(now, ["ann", "bob", "cid"]), True)

    def test_corner_counts_k(self):
        now = end({"ann": send("c", 3) * 2 + send("d"), "bob": take("d") + take("c", 3)}, rooms={"c": 4})
        self.assertEqual(now.level("c"), 3)
        self.assertEqual(corner_of(now, ["ann", "bob"]), {"c": 5})

    def test_movers(self):
        now = first_moment({"ann": send("c") * 2, "bob": take("d") + take("c"), "cid": forever(work(1)) , "dan": send("d")})
        now = now >> "ann"
        self.assertEqual([knots(now), knots(now, ["bob"]), knots(now, ["dan"])], [[], [["ann"]], [["ann"]]])
        self.assertEqual([lost(now, ["dan"]), lost(now, ["bob"])], [["bob"], []])
        self.assertEqual([is_knot(now, ["ann"]), is_knot(now, ["ann"], ["bob"]), is_knot(now, ["ann"], ("cid", "dan"))],
                         [False, True, True])
        self.assertEqual(corner_of(now, ["ann"], ["bob"]), {"c": 1})
        self.assertEqual(corner_of(moment=now, knot=["ann"], movers=("dan",)), {"c": 1})
        self.keeps_equal(NoKnot, ["ann"], corner_of, now, ["ann"], ["ann", "bob"])
        self.assertEqual(knots(now, ["ann", "bob"]), [])

    def test_movers_are_in_no_knot(self):
        now = end({"ann": send("c") * 2 + send("d"), "bob": take("d") + take("c")})
        self.assertEqual(knots(now), [["ann", "bob"]])
        self.assertEqual(knots(now, ["bob"]), [["ann"]])
        self.assertEqual([knots(now, ["ann"]), lost(now, ["ann"])], [[], ["bob"]])
        self.assertIs(is_knot(now, ["ann", "bob"], ["bob"]), False)

    def test_new_lists_and_dicts(self):
        now = end({"ann": send("c") * 2 + send("d"), "bob": take("d") + take("c")})
        found = knots(now)
        found[0].append("x")
        found.append(["y"])
        corner_of(now, ["ann", "bob"])["c"] = 9
        self.assertEqual(knots(now), [["ann", "bob"]])
        self.assertEqual(corner_of(now, ["ann", "bob"]), {"c": 1})

    def test_arguments_stay(self):
        now = end({"ann": send("c") * 2 + send("d"), "bob": take("d") + take("c"), "cid": Row()})
        group, movers = ["ann", "bob"], ["cid"]
        for call in (is_knot, corner_of):
            call(now, group, movers)
        lost(now, movers)
        knots(now, movers)
        self.assertEqual([group, movers], [["ann", "bob"], ["cid"]])


class WrongThingsTest(Case):
    def setUp(self):
        self.now = end({"ann": send("c") * 2, "bob": send("d") * 2, "cid": Row(), "dan": send("e") * 2 + send("f"),
                        "eva": take("f") + take("e")})

    def test_no_knots(self):
        things = strange_values() + [
            (), [], ("ann",), ("ann", "bob"), "ann", {"ann": 1}, {"ann"}, ["bob", "ann"], ["ann", "ann"], ["x"], ["ann", "x"],
            ["ann", None], [None], [["ann"]], ["ann", 1], [True], [Strange()], ["ann", Strange()], ["c"], ["cid"],
            ["ann", "cid"], ["dan"], ["eva"], ["eva", "dan"], iter(["ann"]), ["ann", "bob", "ann"], [[]], [{}, "ann"],
        ]
        for thing in things:
            with self.subTest(kind=type(thing)):
                self.assertIs(is_knot(self.now, thing), False)
                self.keeps(NoKnot, thing, corner_of, self.now, thing)
        for thing in (["ann"], ["bob"], ["ann", "bob"], ["dan", "eva"], ["ann", "dan", "eva"]):
            self.assertIs(is_knot(moment=self.now, thing=thing), True)

    def test_wrong_movers(self):
        wrong = [value for value in strange_values() if value not in ((), [])] + [
            "ann", {"ann"}, {"ann": 1}, iter(["ann"]), ["ann", "ann"], ("ann", "bob", "ann"), ["x"], ["ann", "x"], ["c"],
            [None], [True], [["ann"]], [[]], ("ann", {}), [Strange()], Strange(), ["ann", 1],
        ]
        for call in CALLS:
            self.keeps_all(BadGroup, wrong, lambda movers: call(self.now, movers))

    def test_movers_of_either_kind(self):
        for movers in [(), [], ["cid"], ("cid",), ["eva", "cid"]]:
            self.assertEqual(lost(self.now, movers), [] if movers else ["cid"])

    def test_movers_are_looked_at_first(self):
        for thing in [None, ["x"], ["ann"], []]:
            self.keeps_equal(BadGroup, ["x"], is_knot, self.now, thing, ["x"])
            self.keeps_equal(BadGroup, ["x"], corner_of, self.now, thing, ["x"])


class ByHandTest(Case):
    """Groups of all processes are looked at one by one, by the document's own words."""

    def groups(self, net):
        return [list(group) for size in range(len(net.processes) + 1)
                for group in itertools.combinations(net.processes, size)]

    def check_moment(self, now, movers):
        gone = greatest_lost(now, movers, self.groups(now.net))
        self.assertEqual(lost(now, movers), gone)
        found = [group for group in self.groups(now.net) if group and is_knot_by_hand(now, group, movers, gone)]
        for group in self.groups(now.net):
            self.assertIs(is_knot(now, group, movers), group in found)
        least = [group for group in found if not [other for other in found if set(other) < set(group)]]
        self.assertEqual(knots(now, movers), sorted(least))
        self.assertEqual(len(set(sum(least, []))), len(sum(least, [])))
        for group in found:
            self.assertTrue([member for member in group if now.wait(member)[0] == "full"])
            self.assertEqual(corner_of(now, group, movers), {
                now.wait(member)[1]: now.level_in(now.wait(member)[1]) + now.next_part(member)[2] - 1
                for member in group if now.wait(member)[0] == "full"
            })

    def test_moments_of_many_runs(self):
        for chance in chances(150, 6):
            net = chance_net(chance, 0.1)
            now = begin(net, chance.randint(0, 3), chance_rooms(chance, net))
            for _ in range(25):
                movers = chance.sample(net.processes, chance.randint(0, len(net.processes)))
                self.check_moment(now, movers if chance.random() < 0.5 else ())
                if not now.can():
                    break
                now = now >> chance.choice(now.can())

    def test_ends_of_many_runs(self):
        many = 0
        for chance in chances(400, 7):
            net = chance_net(chance)
            now = end_of(begin(net, chance.randint(0, 3), chance_rooms(chance, net)))
            self.check_moment(now, ())
            waits = [process for process in net.processes if now.wait(process)[0] == "full"]
            self.assertEqual(bool(knots(now)), bool(waits))
            many += bool(waits)
        self.assertGreater(many, 50)

    def test_corners(self):
        """With rooms up to the corner of a knot at least the same group waits, whatever the other rooms."""
        for chance in chances(300, 8):
            net = chance_net(chance)
            n = chance.randint(0, 3)
            now = end_of(begin(net, n, chance_rooms(chance, net)))
            for knot in knots(now):
                corner = corner_of(now, knot)
                for rooms in [without_limit(net), least_possible(net), chance_rooms(chance, net)]:
                    for store in corner:
                        low = net.least_room(store)
                        self.assertGreaterEqual(corner[store], low)
                        rooms = rooms.raised(store, chance.choice((low, corner[store], corner[store])))
                    other = end_of(begin(net, n, rooms))
                    full = [process for process in net.processes if other.wait(process)[0] == "full"]
                    self.assertTrue(full)
                    self.assertTrue([process for process in knot if process in full])
                    self.assertTrue(all(other.wait(process)[0] in ("full", "empty") for process in knot))

    def test_more_room_never_helps_the_lost(self):
        for chance in chances(200, 9):
            net = chance_net(chance)
            n = chance.randint(0, 3)
            rooms = chance_rooms(chance, net)
            now = end_of(begin(net, n, rooms))
            wide = end_of(begin(net, n, rooms | without_limit(net)))
            for process in lost(now):
                self.assertEqual([wide.place(process), wide.wait(process)[0] == "full"], [now.place(process), False])


def greatest_lost(now, movers, groups):
    """All processes of groups that hold for the words of [13]."""
    found = []
    for group in groups:
        if all(process not in movers and may_be_lost(now, process, movers, group) for process in group):
            found.extend(process for process in group if process not in found)
    return sorted(found)


def may_be_lost(now, process, movers, group):
    wait = now.wait(process)
    if wait is None or wait[0] == "full":
        return False
    if wait[0] == "ended":
        return True
    sender = now.net.sender(wait[1])
    return sender is None or sender in movers or sender in group


def is_knot_by_hand(now, group, movers, gone):
    for process in group:
        wait = now.wait(process)
        if process in movers or process in gone or wait is None or wait[0] == "ended":
            return False
        if wait[0] == "empty" and now.net.sender(wait[1]) not in group:
            return False
        if wait[0] == "full":
            for channel in now.net.channels_in(wait[1]):
                taker = now.net.taker(channel)
                if now.level(channel) > 0 and taker is not None:
                    if taker not in group and taker not in gone and taker not in movers:
                        return False
    return True


if __name__ == "__main__":
    unittest.main()

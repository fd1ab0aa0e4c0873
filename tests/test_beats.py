"""[30], [31], [32] and [4] (h): rounds of a net, when each step begins, and the pace that rooms allow."""

import random
import unittest
from math import gcd

from leastrooms.beats import Beats, events_in, is_as_fast, is_pace_paper, pace_paper, rounds_in
from leastrooms.errors import BadBeats, BadNet, BadNumber, BadPace, BadRooms, NoBeat, NotSo, Small
from leastrooms.nets import Net
from leastrooms.rooms import Rooms, least_possible, without_limit
from leastrooms.rows import Row, forever, loop, send, take, work
from leastrooms.runs import run
from tests.beat_by_beat import begins_by_playing, beating_net
from tests.helping import Case, Strange, strange_values

FAR = 10 ** 30


def handing():
    return Net({"ann": forever(work(3) + send("c")), "bob": forever(take("c") + work(4))})


def small():
    return Beats(handing(), Rooms({"c": 1}))


NO_BEATS = [
    ("program", {"ann": send("c") + forever(send("c")), "bob": forever(take("c"))}),
    ("program", {"ann": forever(send("c")), "bob": take("c")}),
    ("program", {"ann": forever(send("c")), "bob": Row()}),
    ("program", {"ann": loop(5, send("c")), "bob": forever(take("c"))}),
    ("count", {"ann": forever(loop("n", send("c"))), "bob": forever(take("c"))}),
    ("count", {"ann": forever(send("c")), "bob": forever(take("c") + loop(2, loop("n-1", work(1))))}),
    ("count", {"ann": forever(send("c") + loop(0, loop((1, -FAR), Row()))), "bob": forever(take("c"))}),
    ("step", {"ann": forever(Row())}),
    ("step", {"ann": forever(send("c")), "bob": forever(loop(0, take("c")))}),
    ("step", {"ann": forever(send("c")), "bob": forever(loop(FAR, loop(FAR, Row())) + loop(0, take("c")))}),
    ("end", {"ann": forever(send("c"))}),
    ("end", {"ann": forever(take("c"))}),
    ("end", {"ann": forever(send("c")), "bob": forever(work(1) + loop(0, take("c")))}),
    ("end", {"ann": forever(work(1) + loop(0, send("c"))), "bob": forever(take("c"))}),
    ("end", {"ann": forever(work(1) + loop(0, send("c"))), "bob": forever(work(1) + loop(0, take("c")))}),
    ("joined", {"ann": forever(work(1)), "bob": forever(work(1))}),
    ("joined", {"ann": forever(send("c")), "bob": forever(take("c")), "cid": forever(send("d")), "dan": forever(take("d"))}),
    ("balance", {"ann": forever(send("c") + send("d", 2)), "bob": forever(take("c") + take("d"))}),
    ("balance", {"ann": forever(send("c") + take("e")), "bob": forever(take("c") + send("d", 2)), "cid": forever(take("d") + send("e"))}),
    ("long", {"ann": forever(loop(121, work(1)))}),
    ("long", {"ann": forever(send("c")), "bob": forever(loop(60, take("c")) + work(1))}),
    ("long", {"ann": forever(loop(FAR, send("c"))), "bob": forever(take("c"))}),
    ("long", {"ann": forever(loop(FAR, loop(FAR, loop(FAR, work(1)))))}),
    # Two reasons at once: the first one is told.
    ("program", {"ann": forever(loop("n", send("c"))), "bob": work(1)}),
    ("count", {"ann": forever(loop("n", Row()))}),
    ("step", {"ann": forever(Row()), "bob": forever(send("c"))}),
    ("end", {"ann": forever(send("c")), "bob": forever(work(1))}),
    ("joined", {"ann": forever(loop(500, work(1))), "bob": forever(work(1))}),
    ("joined", {"ann": forever(send("c") + send("d", 2)), "bob": forever(take("c") + take("d")), "cid": forever(work(1))}),
    ("balance", {"ann": forever(send("c") + send("d", 2)), "bob": forever(take("c") + take("d") + loop(500, work(1)))}),
]


class RoundsTest(Case):
    def test_no_beat(self):
        for word, programs in NO_BEATS:
            net = Net(programs)
            with self.subTest(word=word, rows=[str(row) for row in programs.values()]):
                for call in [rounds_in, events_in, lambda one: Beats(one, None), lambda one: Beats(one, Rooms({"zed": 0}))]:
                    self.keeps_equal(NoBeat, word, call, net)

    def test_shared_stores(self):
        shared = {"s": ["c", "d"]}
        both = forever(send("c") + send("d"))
        net = Net({"ann": both, "bob": forever(take("c") + take("d"))}, None, shared)
        self.keeps_equal(NoBeat, "store", rounds_in, net)
        self.keeps_equal(NoBeat, "store", rounds_in, Net({"ann": both}, None, shared))
        self.keeps_equal(NoBeat, "step", rounds_in, Net({"ann": both, "bob": forever(Row())}, None, shared))
        self.assertEqual(rounds_in(Net({"ann": both, "bob": forever(take("c") + take("d"))})), {"ann": 1, "bob": 1})

    def test_rounds(self):
        for programs, rounds in [
            ({"ann": forever(work(1))}, {"ann": 1}),
            ({"ann": forever(send("c", 2)), "bob": forever(take("c", 3))}, {"ann": 3, "bob": 2}),
            ({"ann": forever(send("c", 4)), "bob": forever(take("c", 6))}, {"ann": 3, "bob": 2}),
            ({"ann": forever(loop(6, send("c"))), "bob": forever(take("c") + send("d", 3)), "cid": forever(take("d", 9))},
             {"ann": 1, "bob": 6, "cid": 2}),
            ({"ann": forever(send("c") + take("d", 2)), "bob": forever(take("c", 3) + send("d", 6))}, {"ann": 3, "bob": 1}),
        ]:
            found = rounds_in(Net(programs))
            self.assertEqual(found, rounds)
            found["zed"] = 1
            self.assertEqual(rounds_in(Net(programs)), rounds)

    def test_far_counts_that_still_fit(self):
        far = loop(FAR, send("c")) + loop(FAR, send("c"))
        self.keeps_equal(NoBeat, "long", rounds_in, Net({"ann": forever(far), "bob": forever(loop(FAR, take("c")))}))
        net = Net({"ann": forever(send("c") + loop(FAR, loop(0, work(1)))), "bob": forever(loop(FAR, Row()) + take("c"))})
        self.assertEqual(events_in(net), [("ann", ("send", "c", 1)), ("bob", ("take", "c", 1))])

    def test_up_to_120_steps(self):
        for steps, word in [(120, None), (121, "long")]:
            net = Net({"ann": forever(send("c")), "bob": forever(loop(59, take("c")) + loop(steps - 118, work(1)))})
            if word is None:
                self.assertEqual([rounds_in(net), len(events_in(net))], [{"ann": 59, "bob": 1}, 120])
            else:
                self.keeps_equal(NoBeat, word, events_in, net)

    def test_events(self):
        net = Net({"bob": forever(loop(2, take("c") + work(5)) + take("c")), "ann": forever(send("c", 3) + loop(0, work(1)))})
        sent, taken = ("ann", ("send", "c", 3)), ("bob", ("take", "c", 1))
        self.assertEqual(events_in(net), [sent, taken, ("bob", ("work", 5)), taken, ("bob", ("work", 5)), taken])
        events_in(net).append(None)
        self.assertEqual(len(events_in(net)), 6)

    def test_no_net(self):
        for call in [rounds_in, events_in, lambda thing: Beats(thing, None)]:
            self.keeps_all(BadNet, strange_values(), call)


class BeatsTest(Case):
    def test_the_example(self):
        wide = Beats(handing(), Rooms({"c": 2}))
        self.assertEqual([small().waits, small().begins(3), small().pace, wide.waits[3], is_pace_paper(small(), pace_paper(small()))],
                         [[(0, 1, 0), (1, 0, 1), (1, 2, 0), (2, 1, 1), (2, 3, 0), (3, 2, 1)],
                          [[0, 3, 4, 5], [4, 7, 9, 10], [8, 11, 14, 15]], (5, 1), (2, 1, 2), True])

    def test_what_is_kept(self):
        net, rooms = handing(), Rooms({"c": 1})
        beats = Beats(net=net, rooms=rooms)
        self.assertIs(beats.net, net)
        self.assertIs(beats.rooms, rooms)
        self.assertEqual(beats.events, events_in(net))
        for call in [lambda: beats.events, lambda: beats.waits, lambda: beats.begins(2), lambda: beats.begins(2)[0]]:
            before = len(call())
            call().append(None)
            self.assertEqual(len(call()), before)

    def test_one_process_alone(self):
        beats = Beats(Net({"ann": forever(work(7))}), Rooms({}))
        self.assertEqual([beats.events, beats.waits, beats.pace], [[("ann", ("work", 7))], [(0, 0, 1)], (7, 1)])
        self.assertEqual(beats.begins(3), [[0], [7], [14]])
        self.assertEqual(pace_paper(beats)[:3], ("pace", (7, 1), ((0, 0, 1),)))

    def test_stores_without_limit(self):
        beats = Beats(handing(), Rooms({"c": None}))
        self.assertEqual(beats.waits, [(0, 1, 0), (1, 0, 1), (1, 2, 0), (2, 3, 0), (3, 2, 1)])
        self.assertEqual(beats.pace, (5, 1))
        self.assertEqual(beats.begins(2), [[0, 3, 4, 5], [4, 7, 9, 10]])

    def test_waits_and_distances(self):
        # ann sends 2 at once, bob takes 3 at once: three rounds of ann, two of bob.
        net = Net({"ann": forever(send("c", 2)), "bob": forever(take("c", 3))}, {"c": 1})
        self.assertEqual(events_in(net), [("ann", ("send", "c", 2))] * 3 + [("bob", ("take", "c", 3))] * 2)
        own = [(0, 1, 0), (1, 2, 0), (2, 0, 1), (3, 4, 0), (4, 3, 1)]
        self.assertEqual(Beats(net, Rooms({"c": None})).waits, sorted(own + [(0, 3, 0), (2, 4, 0)]))
        # With room 4 the first send needs none that is taken, the second one the first take.
        self.assertEqual(Beats(net, Rooms({"c": 4})).waits, sorted(own + [(0, 3, 0), (2, 4, 0), (4, 0, 1), (3, 1, 0), (3, 2, 0)]))
        self.assertEqual(Beats(net, Rooms({"c": 40})).waits, sorted(own + [(0, 3, 0), (2, 4, 0), (4, 0, 7), (3, 1, 6), (3, 2, 6)]))

    def test_many_first_messages(self):
        net = Net({"ann": forever(send("c")), "bob": forever(take("c") + work(9))}, {"c": 99})
        beats = Beats(net, Rooms({"c": 100}))
        self.assertEqual(beats.waits, [(0, 0, 1), (0, 1, 99), (1, 0, 1), (1, 2, 0), (2, 1, 1)])
        self.assertEqual(beats.begins(101)[100], [991, 1000, 1001])
        self.assertEqual(beats.pace, (10, 1))

    def test_the_same_wait_only_once(self):
        # Both of the messages that are taken at once wait for the same send, and the other way round.
        net = Net({"ann": forever(send("c", 2) + take("d")), "bob": forever(take("c", 2) + send("d"))})
        waits = Beats(net, least_possible(net)).waits
        self.assertEqual(waits, sorted(set(waits)))
        # The ring of two events of one process and their messages: the order tells what the messages tell, too.
        one = Net({"ann": forever(send("c")), "bob": forever(take("c"))})
        self.assertEqual(Beats(one, Rooms({"c": 1})).waits, [(0, 0, 1), (0, 1, 0), (1, 0, 1), (1, 1, 1)])

    def test_begins(self):
        self.assertEqual(small().begins(0), [])
        self.assertEqual(small().begins(rounds=1), [[0, 3, 4, 5]])
        far = small().begins(200)
        self.assertEqual([len(far), far[199]], [200, [991, 995, 999, 1000]])
        self.keeps_all(BadNumber, [201, -1, True, False, 1.0, "3", None, 10 ** 5000, [3]] + strange_values(), small().begins)

    def test_against_playing_beat_by_beat(self):
        counted = {"right": 0, "NotSo": 0, "NoBeat": 0}
        for seed in range(300):
            chance = random.Random(seed)
            net = beating_net(chance)
            try:
                rounds_in(net)
            except NoBeat:
                counted["NoBeat"] += 1
                continue
            rooms = Rooms({store: chance.choice((None, 0, 0, 1, 4)) for store in net.stores})
            rooms = Rooms({store: None if room is None else net.least_room(store) + room for store, room in rooms.pairs()})
            if run(net, 0, rooms).movers != list(net.processes):
                self.keeps(NotSo, rooms, Beats, net, rooms)
                counted["NotSo"] += 1
                continue
            beats = Beats(net, rooms)
            self.assertEqual(beats.begins(7), begins_by_playing(net, rooms, beats.events, 7))
            self.assertTrue(is_pace_paper(beats, pace_paper(beats)))
            self.look_at_pace(beats)
            counted["right"] += 1
        self.assertGreater(min(counted.values()), 20)

    def look_at_pace(self, beats):
        """In the long run the events of its ring are as slow as the pace."""
        _, (length, rounds), ring, _ = pace_paper(beats)
        self.assertEqual(gcd(length, rounds), 1)
        far = beats.begins(200)
        for earlier, _, _ in ring:
            self.assertLessEqual(abs((far[199][earlier] - far[99][earlier]) * rounds - 100 * length), length * rounds + 600 * rounds)

    def test_not_so(self):
        net = Net({"ann": forever(take("d") + send("c")), "bob": forever(take("c") + send("d"))})
        for rooms in [Rooms({"c": 1, "d": 1}), without_limit(net)]:
            self.keeps(NotSo, rooms, Beats, net, rooms)
        turned = Net({"ann": forever(send("c") * 3 + send("d")), "bob": forever(take("d") + take("c") * 3)})
        narrow = Rooms({"c": 2, "d": 1})
        self.keeps(NotSo, narrow, Beats, turned, narrow)
        self.assertEqual(Beats(turned, Rooms({"c": 3, "d": 1})).pace, (6, 1))

    def test_paces(self):
        for programs, rooms, pace in [
            ({"ann": forever(send("c") + send("c") + work(9)), "bob": forever(take("c") + work(4))}, {"c": 1}, (12, 1)),
            ({"ann": forever(send("c") + send("c") + work(9)), "bob": forever(take("c") + work(4))}, {"c": 2}, (11, 1)),
            ({"ann": forever(send("c")), "bob": forever(take("c"))}, {"c": 1}, (2, 1)),
            ({"ann": forever(send("c")), "bob": forever(take("c"))}, {"c": 2}, (1, 1)),
            ({"ann": forever(send("c") + take("d")), "bob": forever(take("c") + work(1) + send("d"))}, {"c": 1, "d": 1}, (5, 1)),
        ]:
            self.assertEqual(Beats(Net(programs), Rooms(rooms)).pace, pace)
        # Two messages go round a ring of five beats.
        ring = Net({"ann": forever(take("a") + send("b")), "bob": forever(take("b") + send("c")), "cid": forever(take("c") + send("a"))},
                   {"a": 2})
        self.assertEqual(Beats(ring, without_limit(ring)).pace, (3, 1))
        three = Net({process: ring.row(process) for process in ring.processes}, {"a": 1})
        self.assertEqual(Beats(three, without_limit(three)).pace, (6, 1))
        slow = Net({"ann": forever(take("a") + send("b")), "bob": forever(take("b") + send("c")), "cid": forever(take("c") + send("d")),
                    "dan": forever(take("d") + send("e")), "eva": forever(take("e") + send("a"))}, {"a": 3})
        self.assertEqual(Beats(slow, without_limit(slow)).pace, (10, 3))

    def test_wrong_rooms(self):
        net = handing()
        self.keeps_all(BadRooms, strange_values() + [Rooms({}), Rooms({"c": 1, "d": 1}), {"c": 1}], lambda thing: Beats(net, thing))
        self.keeps_equal(Small, "c", Beats, net, Rooms({"c": 0}))
        self.assertEqual(net, handing())


class PaceTest(Case):
    def test_as_fast(self):
        for one, other, answer in [((5, 1), (5, 1), True), ((10, 2), (5, 1), True), ((5, 1), (10, 2), True), ((5, 2), (3, 1), True),
                                   ((3, 1), (5, 2), False), ((10 ** 300 + 1, 10 ** 300), (1, 1), False),
                                   ((10 ** 300, 10 ** 300 + 1), (1, 1), True), ((1, 1), (10 ** 300 + 1, 10 ** 300), True),
                                   ((10 ** 300, 3 * 10 ** 300), (333, 1000), False), ((333, 1000), (1, 3), True)]:
            self.assertIs(is_as_fast(one, other), answer)

    def test_no_pace(self):
        wrong = strange_values() + [(0, 1), (1, 0), (-1, 1), (1, -1), (True, 1), (1, True), (1.0, 1), (5,), (5, 1, 1), [5, 1], "51",
                                    (Strange(), 1), ((5, 1),)]
        self.keeps_all(BadPace, wrong, lambda thing: is_as_fast(thing, None))
        self.keeps_all(BadPace, wrong, lambda thing: is_as_fast((5, 1), thing))

    def test_papers(self):
        word, pace, ring, heights = pace_paper(small())
        self.assertEqual([word, pace, len(heights)], ["pace", (5, 1), 4])
        for one, other in zip(ring, ring[1:] + ring[:1]):
            self.assertIn(one, small().waits)
            self.assertEqual(one[1], other[0])
        self.assertEqual([type(thing) for thing in (pace, ring, heights)], [tuple] * 3)

    def test_papers_made_by_hand(self):
        beats = small()
        ring = ((2, 3, 0), (3, 2, 1))
        heights = pace_paper(beats)[3]
        for thing in [("pace", (5, 1), ring, heights), ("pace", (5, 1), ring[::-1], heights), ("pace", (5, 1), ring * 7, heights),
                      ("pace", (5, 1), ring, tuple(height + FAR for height in heights)),
                      ("pace", (5, 1), ring, tuple(height - FAR for height in heights))]:
            self.assertIs(is_pace_paper(beats, thing), True)
        other = ((0, 1, 0), (1, 0, 1))
        lifted = (heights[0], heights[1], heights[2] - 1000, heights[3])
        for thing in [
            ("pace", (4, 1), other, heights), ("pace", (5, 1), other, heights), ("pace", (10, 2), ring, heights),
            ("pace", (5, 1), ring[:1], heights), ("pace", (5, 1), (), heights), ("pace", (5, 1), ring + other, heights),
            ("pace", (5, 1), ((2, 3, 0), (3, 2, 0)), heights), ("pace", (5, 1), ((2, 3, 0), (3, 2, 2)), heights),
            ("pace", (5, 1), ((2, 3, False), (3, 2, 1)), heights), ("pace", (5, 1), ((2, 3, 0), (3, 2, True)), heights),
            ("pace", (5, 1), ((2, 3, 0.0), (3, 2, 1)), heights), ("pace", (5, 1), ([2, 3, 0], [3, 2, 1]), heights),
            ("pace", (5, 1), list(ring), heights), ("pace", (5, 1), ring, list(heights)), ("pace", [5, 1], ring, heights),
            ("pace", (5, True), ring, heights), ("pace", (5, 1), ring, heights[:3]), ("pace", (5, 1), ring, heights + (0,)),
            ("pace", (5, 1), ring, lifted), ("pace", (5, 1), ring, heights[:3] + (True,)), ("pace", (5, 1), ring, heights[:3] + (None,)),
            ("pace", (5, 1), ring, (0.0,) + heights[1:]), ("Pace", (5, 1), ring, heights), ("pace", (5, 1), ring),
            ("pace", (5, 1), ring, heights, ()), ["pace", (5, 1), ring, heights], (Strange(), (5, 1), ring, heights),
            ("pace", Strange(), ring, heights), ("pace", (5, 1), Strange(), heights), ("pace", (5, 1), ring, Strange()),
            ("pace", (5, 1), (Strange(), Strange()), heights), ("pace", (5, 1), ring, (Strange(),) * 4),
            ("pace", (Strange(), 1), ring, heights), ("pace", (6, 1), ring, heights),
        ] + strange_values():
            self.assertIs(is_pace_paper(beats, thing), False)

    def test_each_part_changed(self):
        chance = random.Random(5)
        for _ in range(200):
            beats = small()
            word, pace, ring, heights = pace_paper(beats)
            at = chance.randrange(4)
            changed = heights[:at] + (heights[at] + chance.choice((-2, -1, 1, 2)),) + heights[at + 1:]
            lengths = [3, 1, 1, 4]
            right = all(changed[later] >= changed[earlier] + lengths[earlier] - distance * 5 for earlier, later, distance in beats.waits)
            self.assertIs(is_pace_paper(beats, (word, pace, ring, changed)), right)

    def test_papers_of_another_net(self):
        wide = Beats(handing(), Rooms({"c": 2}))
        self.assertTrue(is_pace_paper(wide, pace_paper(wide)))
        faster = Beats(Net({"ann": forever(work(3) + send("c")), "bob": forever(take("c") + work(3))}), Rooms({"c": 2}))
        self.assertFalse(is_pace_paper(wide, pace_paper(faster)))

    def test_no_beats(self):
        wrong = strange_values() + [handing(), Beats, pace_paper(small())]
        self.keeps_all(BadBeats, wrong, pace_paper)
        self.keeps_all(BadBeats, wrong, lambda thing: is_pace_paper(thing, None))

    def test_paces_that_are_no_integers(self):
        ring = {"ann": forever(take("a") + send("b") + work(2)), "bob": forever(take("b") + send("a"))}
        for first, rooms, pace in [(1, {"a": 1, "b": 1}, (4, 1)), (2, {"a": 2, "b": 1}, (4, 1))]:
            beats = Beats(Net(ring, {"a": first}), Rooms(rooms))
            self.assertEqual(beats.pace, pace)
        long = Net({"ann": forever(take("a") + send("b")), "bob": forever(take("b") + send("c")),
                    "cid": forever(take("c") + work(2) + send("a"))}, {"a": 3})
        beats = Beats(long, without_limit(long))
        self.assertEqual(beats.pace, (4, 1))
        more = Net({**{process: long.row(process) for process in ("ann", "bob")}, "cid": forever(take("c") + send("d")),
                    "dan": forever(take("d") + send("a"))}, {"a": 3})
        beats = Beats(more, without_limit(more))
        self.assertEqual(beats.pace, (8, 3))
        self.assertTrue(is_pace_paper(beats, pace_paper(beats)))
        self.assertFalse(is_pace_paper(beats, ("pace", (3, 1)) + pace_paper(beats)[2:]))


if __name__ == "__main__":
    unittest.main()

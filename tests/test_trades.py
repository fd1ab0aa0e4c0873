"""[33], [30] and [4] (h): which rooms buy which pace."""

import itertools
import unittest

from leastrooms.beats import Beats, is_as_fast
from leastrooms.errors import BadNet, BadNumber, BadPace, BadRooms, NoBeat, NotSo, Small, TooLong, TooMany
from leastrooms.nets import Net
from leastrooms.rooms import Rooms, least_possible, without_limit
from leastrooms.rows import Row, forever, loop, send, take, work
from leastrooms.trades import best_within, fastest, pace_at, room_for, trades
from tests.beat_by_beat import beating_net
from tests.helping import Case, chances, strange_values

CALLS = [
    lambda net, other: fastest(net), lambda net, other: trades(net), lambda net, other: pace_at(net, other),
    lambda net, other: best_within(net, other), lambda net, other: room_for(net, other),
]


def bursts():
    return Net({"ann": forever(send("c") + send("c") + work(9)), "bob": forever(take("c") + work(4))})


def pairs(found):
    return [(pace, rooms.pairs()) for pace, rooms in found]


def ladder(many, length=9):
    """A net whose sender sends many messages at a stretch; each one more that has room saves beats."""
    return Net({"ann": forever(loop(many, send("c")) + work(length)), "bob": forever(take("c") + work(4))})


def comb(many, channels, length=20):
    """A net whose first process sends so many messages at a stretch into each channel, and then works for long."""
    row = Row()
    programs = {}
    for at, channel in enumerate(channels):
        row = row + loop(many, send(channel))
        programs["taker" + channel] = forever(loop(many, take(channel) + work(5 + at)))
    return Net({"ann": forever(row + work(length)), **programs})


def bursting_net(chance):
    """A net made by chance whose processes send and take several messages at a stretch, and then work for long."""
    processes = ["ann", "bob", "cid"][:chance.randint(2, 3)]
    pieces = {process: [] for process in processes}
    names = iter("pqrstu")
    for at in range(1, len(processes)):
        for sender in chance.sample(processes[:at], chance.randint(1, min(2, at))):
            channel = next(names)
            many = chance.randint(1, 4)
            pieces[sender].append(loop(many, send(channel) + chance.choice((Row(), Row(), work(2)))))
            pieces[processes[at]].append(loop(many, take(channel) + chance.choice((Row(), Row(), work(3)))))
    programs = {}
    for process in processes:
        pieces[process].append(work(chance.randint(1, 15)))
        chance.shuffle(pieces[process])
        row = Row()
        for piece in pieces[process]:
            row = row + piece
        programs[process] = forever(row)
    return Net(programs)


def paces_in(net, tops):
    """The paces of all rooms up to these that are enough."""
    found = {}
    for numbers in itertools.product(*[range(net.least_room(store), tops[store] + 1) for store in net.stores]):
        try:
            found[numbers] = Beats(net, Rooms(dict(zip(net.stores, numbers)))).pace
        except NotSo:
            pass
    return found


def best_among(paces):
    """The trades among rooms whose paces are known, by the words of the document."""
    return [
        (paces[numbers], numbers) for numbers in sorted(paces)
        if not any(other != numbers and all(map(int.__le__, other, numbers)) and is_as_fast(paces[other], paces[numbers])
                   for other in paces)
    ]


class TradesTest(Case):
    def test_the_example(self):
        net = bursts()
        self.assertEqual(fastest(net), (11, 1))
        self.assertEqual(pairs(trades(net)), [((12, 1), [("c", 1)]), ((11, 1), [("c", 2)])])

    def test_several_with_the_same_pace(self):
        net = Net({"ann": forever(work(11) + loop(2, send("p"))), "bob": forever(loop(3, send("q")) + loop(2, take("p")) + work(7)),
                   "cid": forever(work(3) + loop(3, take("q")))})
        self.assertEqual(pairs(trades(net)), [
            ((15, 1), [("p", 1), ("q", 1)]), ((14, 1), [("p", 1), ("q", 2)]), ((14, 1), [("p", 2), ("q", 1)]),
            ((13, 1), [("p", 2), ("q", 2)]),
        ])
        self.assertEqual(pairs(best_within(net, 3)), [((14, 1), [("p", 1), ("q", 2)]), ((14, 1), [("p", 2), ("q", 1)])])
        self.assertEqual(room_for(net, (29, 2)), best_within(net, 3))
        self.assertEqual(room_for(net, (14, 1)), best_within(net, 3))
        self.assertEqual(best_within(net, 4), room_for(net, (13, 1)))

    def test_each_room_saves_beats(self):
        found = trades(ladder(4))
        self.assertEqual([rooms["c"] for _, rooms in found], list(range(1, len(found) + 1)))
        paces = [pace for pace, _ in found]
        self.assertEqual(sorted(paces, key=lambda pace: -pace[0] / pace[1]), paces)
        self.assertEqual(paces[-1], fastest(ladder(4)))

    def test_one_trade_for_a_net_that_no_room_makes_faster(self):
        net = Net({"ann": forever(work(5))})
        self.assertEqual(trades(net), [((5, 1), Rooms({}))])
        self.assertEqual(fastest(net), (5, 1))
        net = Net({"ann": forever(send("c") + take("d")), "bob": forever(take("c") + send("d"))})
        self.assertEqual(pairs(trades(net)), [((4, 1), [("c", 1), ("d", 1)])])

    def test_first_messages_and_several_at_once(self):
        net = Net({"ann": forever(send("c", 3) + work(2)), "bob": forever(take("c", 2) + work(3))}, {"c": 5})
        found = trades(net)
        self.assertEqual(found[0][1]["c"], 5)
        self.assertEqual(found[-1][0], fastest(net))
        self.assertEqual(pairs(found), pairs(best_in_grid(net, {"c": 12})))

    def test_paces_are_in_lowest_terms(self):
        net = Net({"ann": forever(send("c") + work(1)), "bob": forever(take("c", 2) + work(2))})
        self.assertEqual([pace for pace, _ in trades(net)], [(4, 1)])
        for pace, rooms in trades(ladder(3)):
            self.assertEqual(pace, pace_at(ladder(3), rooms))

    def test_by_chance(self):
        seen = set()
        for index, chance in enumerate(chances(120, 331)):
            net = beating_net(chance) if index % 3 == 0 else bursting_net(chance)
            with self.subTest(index=index):
                try:
                    found = trades(net)
                except (NoBeat, NotSo, TooMany, TooLong):
                    continue
                tops = {store: max(rooms[store] for _, rooms in found) + 1 for store in net.stores}
                size = 1
                for store in net.stores:
                    size *= tops[store] - net.least_room(store) + 1
                if size <= 400:
                    self.assertEqual(pairs(found), pairs(best_in_grid(net, tops)))
                    seen.add(min(len(found), 4))
                quick = fastest(net)
                self.assertEqual(quick, Beats(net, without_limit(net)).pace)
                self.assertTrue(all(is_as_fast(quick, pace) for pace, _ in found))
                self.assertIn(quick, [pace for pace, _ in found])
        self.assertEqual(seen, {1, 2, 3, 4})

    def test_too_many_and_too_long(self):
        self.assertEqual(len(trades(comb(4, "pqr"))), 27)
        for net, many in [(comb(5, "pqr"), 64), (comb(5, "pqrs"), 256)]:
            try:
                self.assertEqual(len(trades(net)), many)
            except (TooLong, TooMany):
                pass

    def test_every_list_is_new(self):
        net = bursts()
        for call in (lambda: trades(net), lambda: best_within(net, 5), lambda: room_for(net, (12, 1))):
            one = call()
            one.clear()
            self.assertTrue(call())
        self.assertEqual(net, bursts())


def best_in_grid(net, tops):
    return [(pace, Rooms(dict(zip(net.stores, numbers)))) for pace, numbers in best_among(paces_in(net, tops))]


class PaceAtTest(Case):
    def test_ordinary(self):
        net = bursts()
        self.assertEqual([pace_at(net, Rooms({"c": room})) for room in (1, 2, 3, None)], [(12, 1), (11, 1), (11, 1), (11, 1)])

    def test_wrong(self):
        net = bursts()
        self.keeps_all(BadRooms, strange_values() + [Rooms({"d": 1})], lambda thing: pace_at(net, thing))
        self.keeps_equal(Small, "c", pace_at, net, Rooms({"c": 0}))
        crossed = Net({"ann": forever(loop(2, send("c")) + take("d")), "bob": forever(send("d") + loop(2, take("c")))})
        self.assertEqual(pace_at(crossed, Rooms({"c": 1, "d": 1})), Beats(crossed, Rooms({"c": 1, "d": 1})).pace)
        crossed = Net({"ann": forever(loop(2, send("c")) + send("d")), "bob": forever(take("d") + loop(2, take("c")))})
        rooms = Rooms({"c": 1, "d": None})
        self.keeps(NotSo, rooms, pace_at, crossed, rooms)
        self.assertEqual(pace_at(crossed, Rooms({"c": 2, "d": None})), pace_at(crossed, Rooms({"c": 2, "d": 1})))
        self.assertEqual(trades(crossed)[0][1], Rooms({"c": 2, "d": 1}))


class BestWithinTest(Case):
    def test_ordinary(self):
        net = bursts()
        self.assertEqual(best_within(net, 0), [])
        self.assertEqual(pairs(best_within(net, 1)), [((12, 1), [("c", 1)])])
        for total in (2, 3, 10 ** 6):
            self.assertEqual(pairs(best_within(net, total)), [((11, 1), [("c", 2)])])

    def test_by_the_words(self):
        for chance in chances(60, 332):
            net = bursting_net(chance)
            try:
                found = trades(net)
            except (TooMany, TooLong):
                continue
            for total in sorted({rooms.total for _, rooms in found} | {0, 5}):
                within = [trade for trade in found if trade[1].total <= total]
                swift = [one for one in within if all(is_as_fast(one[0], pace) for pace, _ in within)]
                least = min((rooms.total for _, rooms in swift), default=None)
                self.assertEqual(best_within(net, total), [one for one in swift if one[1].total == least])

    def test_wrong(self):
        net = bursts()
        self.keeps_all(BadNumber, strange_values() + [10 ** 6 + 1], lambda thing: best_within(net, thing))
        self.assertEqual(best_within(net, 10 ** 6), best_within(net, 2))


class RoomForTest(Case):
    def test_ordinary(self):
        net = bursts()
        for pace in [(12, 1), (13, 1), (24, 2), (25, 2), (10 ** 40, 1), (10 ** 40 * 12, 10 ** 40)]:
            self.assertEqual(pairs(room_for(net, pace)), [((12, 1), [("c", 1)])])
        for pace in [(11, 1), (23, 2), (22, 2), (12 * 10 ** 40 - 1, 10 ** 40)]:
            self.assertEqual(pairs(room_for(net, pace)), [((11, 1), [("c", 2)])])
        for pace in [(21, 2), (1, 1), (1, 10 ** 40), (11 * 10 ** 40 - 1, 10 ** 40)]:
            self.assertEqual(room_for(net, pace), [])

    def test_by_the_words(self):
        for chance in chances(60, 334):
            net = bursting_net(chance)
            try:
                found = trades(net)
            except (TooMany, TooLong):
                continue
            for pace in {pace for pace, _ in found}:
                swift = [one for one in found if is_as_fast(one[0], pace)]
                least = min(rooms.total for _, rooms in swift)
                self.assertEqual(room_for(net, pace), [one for one in swift if one[1].total == least])

    def test_wrong(self):
        net = bursts()
        wrong = [(0, 1), (1, 0), (-1, 1), (1, -1), (True, 1), (1, True), (1.0, 1), [11, 1], (11,), (11, 1, 1)]
        self.keeps_all(BadPace, strange_values() + wrong, lambda thing: room_for(net, thing))


class OrderTest(Case):
    def test_a_net_comes_first(self):
        for call in CALLS:
            self.keeps_all(BadNet, strange_values(), lambda thing: call(thing, "wrong"))

    def test_no_beat_comes_ahead_of_other_arguments(self):
        reasons = {
            "program": Net({"ann": send("c"), "bob": take("c")}),
            "count": Net({"ann": forever(loop("n", send("c"))), "bob": forever(take("c"))}),
            "step": Net({"ann": forever(loop(0, send("c"))), "bob": forever(take("c"))}),
            "store": Net({"ann": forever(send("c") + send("d")), "bob": forever(take("c") + take("d"))}, None,
                         {"s": ("c", "d")}),
            "end": Net({"ann": forever(send("c"))}),
            "joined": Net({"ann": forever(work(1)), "bob": forever(work(1))}),
            "balance": Net({"ann": forever(send("c") + send("d")), "bob": forever(take("c") + take("d", 2))}),
            "long": Net({"ann": forever(loop(61, send("c"))), "bob": forever(loop(60, take("c")))}),
        }
        for word, net in reasons.items():
            for call in CALLS:
                for other in (None, "wrong", -1, (0, 0), Rooms({})):
                    self.keeps_equal(NoBeat, word, call, net, other)

    def test_not_so_without_limits(self):
        net = Net({"ann": forever(take("d") + send("c")), "bob": forever(take("c") + send("d"))})
        for call in (fastest, trades, lambda net: best_within(net, 5), lambda net: room_for(net, (1, 1))):
            self.assertEqual(self.fails(NotSo, call, net).value, without_limit(net))
        self.assertEqual(self.fails(NotSo, pace_at, net, least_possible(net)).value, least_possible(net))
        self.keeps(BadNumber, -1, best_within, net, -1)
        self.keeps(BadPace, None, room_for, net, None)


if __name__ == "__main__":
    unittest.main()

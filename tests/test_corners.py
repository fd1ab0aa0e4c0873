"""[19], [20], [21] and [4] (b), (c): least rooms and corners, and what they tell of each other."""

import itertools
import random
import unittest

from leastrooms.corners import (
    cheapest, corners, greatest_below, is_enough, least_above, least_rooms, undercut, why_not,
)
from leastrooms.errors import BadList, BadNet, BadNumber, BadPrices, BadRooms, Small, TooMany
from leastrooms.nets import Net
from leastrooms.rooms import Rooms, least_possible, without_limit
from leastrooms.rows import Row, forever, loop, send, take, work
from leastrooms.runs import run
from tests.helping import Case, bending_net, chance_net, chances, crossing_net, strange_values, thick_net
from tests.playing import is_enough_by_steps

FAR = 10 ** 30
MOST = 10 ** 200


def crossed():
    """Both send first: one of both stores must hold all."""
    return Net({"ann": loop("n", send("c")) + loop("n", take("d")), "bob": loop("n", send("d")) + loop("n", take("c"))})


def relayed():
    """All n messages must fit into c and x and the hands of cid."""
    return Net({"ann": loop("n", send("c")) + send("d"), "bob": take("d") + loop("n", take("x")),
                "cid": forever(take("c") + send("x"))})


def pairs_of(many):
    """So many meetings, one behind another, each with two least rooms."""
    ann, bob = Row(), Row()
    for one, other in list(zip("abcdef", "ghijkl"))[:many]:
        ann = ann + loop(2, send(one)) + loop(3, take(other))
        bob = bob + loop(3, send(other)) + loop(2, take(one))
    return Net({"ann": ann, "bob": bob})


def told(rooms):
    return [one.pairs() for one in rooms]


def key(rooms):
    return [(room is None, room or 0) for _, room in rooms.pairs()]


class LeastRoomsTest(Case):
    def test_the_example(self):
        self.assertEqual(told(least_rooms(crossed(), FAR)), [[("c", 1), ("d", FAR)], [("c", FAR), ("d", 1)]])
        self.assertEqual(told(corners(crossed(), 5)), [[("c", 4), ("d", 4)]])
        self.assertEqual(why_not(crossed(), 5, Rooms({"c": 2, "d": 4})).pairs(), [("c", 4), ("d", 4)])
        self.assertIsNone(why_not(crossed(), 5, Rooms({"c": 1, "d": 5})))

    def test_least_possible_rooms_that_are_enough(self):
        net = Net({"ann": loop("n", send("c", 3)), "bob": loop("3n", take("c"))}, {"c": 2})
        self.assertEqual(told(least_rooms(net, FAR)), [[("c", 3)]])
        self.assertEqual(corners(net, FAR), [])
        for n in (0, 1):
            self.assertEqual(told(least_rooms(crossed(), n)), [[("c", 1), ("d", 1)]])
            self.assertEqual(corners(crossed(), n), [])

    def test_a_net_without_stores(self):
        net = Net({"ann": forever(work(1)), "bob": work(2)})
        self.assertEqual(least_rooms(net, 0), [Rooms({})])
        self.assertEqual(corners(net, 0), [])
        self.assertTrue(is_enough(net, 0, Rooms({})))
        self.assertEqual(cheapest(net, 0, {}), [Rooms({})])
        self.assertIsNone(why_not(net, 0, Rooms({})))
        self.assertEqual(undercut(net, 0, Rooms({})), Rooms({}))

    def test_one_knot_of_several(self):
        net = Net({"ann": send("c") * 4 + send("d") * 3, "bob": take("c"), "cid": take("x")})
        self.assertEqual(told(least_rooms(net, 0)), [[("c", 3), ("d", 3), ("x", 1)]])
        self.assertEqual(told(corners(net, 0)), [[("c", 2), ("d", None), ("x", None)], [("c", None), ("d", 2), ("x", None)]])

    def test_a_store_that_never_has_room_enough(self):
        net = Net({"ann": forever(send("c")), "bob": send("d") * 5})
        self.assertEqual(told(least_rooms(net, 0)), [[("c", None), ("d", 5)]])
        self.assertEqual(told(corners(net, 0)), [[("c", MOST), ("d", None)], [("c", None), ("d", 4)]])
        for room in (1, FAR, MOST):
            self.assertFalse(is_enough(net, 0, Rooms({"c": room, "d": 5})))
        self.assertTrue(is_enough(net, 0, Rooms({"c": None, "d": 5})))
        two = Net({"ann": forever(send("c", 2))})
        self.assertEqual(told(least_rooms(two, 0)), [[("c", None)]])
        self.assertEqual(told(corners(two, 0)), [[("c", MOST)]])

    def test_shared_stores(self):
        net = Net({"ann": loop("n", send("c")) + loop("n", send("d")), "bob": loop("n", take("d")) + loop("n", take("c"))},
                  None, {"s": ["c", "d"]})
        self.assertEqual(told(least_rooms(net, 10)), [[("s", 11)]])
        self.assertEqual(told(corners(net, 10)), [[("s", 10)]])
        apart = Net({process: net.row(process) for process in net.processes})
        self.assertEqual(told(least_rooms(apart, 10)), [[("c", 10), ("d", 1)]])

    def test_far_rooms_that_are_near_to_nothing(self):
        net = Net({"ann": loop("3n-2", send("c", 2)) + send("d"), "bob": loop("n", take("c", 3)) + take("d") + loop("n", take("c"))})
        self.assertEqual(told(least_rooms(net, FAR)), [[("c", 3 * FAR - 4), ("d", 1)]])
        self.assertEqual(told(corners(net, FAR)), [[("c", 3 * FAR - 5), ("d", None)]])

    def test_sixty_and_more(self):
        for n, many in [(5, 3), (61, 59), (62, 60)]:
            least = least_rooms(relayed(), n)
            self.assertEqual(told(least), [[("c", c), ("d", 1), ("x", n - 1 - c)] for c in range(1, n - 1)])
            self.assertEqual(len(least), many)
            self.assertEqual(len(corners(relayed(), n)), many - 1)
        for call in [least_rooms, corners, lambda net, n: why_not(net, n, Rooms({"c": 1, "d": 1, "x": 1})),
                     lambda net, n: undercut(net, n, without_limit(net)),
                     lambda net, n: cheapest(net, n, {"c": 1, "d": 1, "x": 1})]:
            self.assertEqual(self.fails(TooMany, call, relayed(), 63).args, ())
            self.fails(TooMany, call, relayed(), FAR)

    def test_many_least_rooms_of_few_corners(self):
        self.assertEqual(len(least_rooms(pairs_of(5), 0)), 32)
        self.assertEqual(len(corners(pairs_of(5), 0)), 5)
        self.fails(TooMany, least_rooms, pairs_of(6), 0)
        self.fails(TooMany, corners, pairs_of(6), 0)
        self.assertTrue(is_enough(pairs_of(6), 0, without_limit(pairs_of(6))))

    def test_against_each_step(self):
        several = 0
        for seed in range(240):
            chance = random.Random(seed)
            net = (crossing_net, chance_net, thick_net, bending_net)[seed % 4](chance)
            if len(net.stores) > 4:
                continue
            n = chance.choice((0, 1, 2, 3))
            least, most = least_rooms(net, n), corners(net, n)
            several += len(least) > 1
            axes = [[net.least_room(store) + k for k in (0, 1, 2, 4)[:6 - len(net.stores)]] + [None] for store in net.stores]
            for numbers in itertools.product(*axes):
                rooms = Rooms(dict(zip(net.stores, numbers)))
                expected = is_enough_by_steps(net, n, rooms)
                self.assertEqual(is_enough(net, n, rooms), expected)
                self.assertEqual(any(one.fits(rooms) for one in least), expected)
                self.assertEqual(not any(rooms.fits(one) for one in most), expected)
            self.look_at(net, n, least, most)
        self.assertGreater(several, 5)

    def test_endless_nets(self):
        for seed in range(200):
            chance = random.Random(seed)
            net = crossing_net(chance, True) if seed % 2 else chance_net(chance, 1)
            if len(net.stores) > 3:
                continue
            least, most = least_rooms(net, 2), corners(net, 2)
            axes = [[net.least_room(store) + k for k in range(3)] + [None] for store in net.stores]
            for numbers in itertools.product(*axes):
                rooms = Rooms(dict(zip(net.stores, numbers)))
                expected = run(net, 2, rooms).is_enough
                self.assertEqual(any(one.fits(rooms) for one in least), expected)
                self.assertEqual(not any(rooms.fits(one) for one in most), expected)
            self.look_at(net, 2, least, most)

    def look_at(self, net, n, least, most):
        """What holds of all least rooms and corners, beside that they are enough or not."""
        self.assertTrue(least)
        for found in (least, most):
            self.assertEqual([key(one) for one in found], sorted(key(one) for one in found))
            for one, other in itertools.permutations(found, 2):
                self.assertFalse(one.fits(other))
        self.assertEqual(least_above(net, most), least)
        self.assertEqual(greatest_below(net, least), most)

    def test_far_nets_by_chance(self):
        for chance in chances(80, 71):
            net = thick_net(chance) if chance.random() < 0.3 else crossing_net(chance, chance.random() < 0.3)
            n = chance.choice((10 ** 12, FAR))
            least, most = least_rooms(net, n), corners(net, n)
            self.look_at(net, n, least, most)
            for one in least:
                self.assertTrue(is_enough(net, n, one))
                for store, room in one.pairs():
                    if room is not None and room > net.least_room(store):
                        self.assertFalse(is_enough(net, n, one.raised(store, room - 1)))
            for one in most:
                self.assertFalse(is_enough(net, n, one))
                for store, room in one.pairs():
                    if room is not None:
                        self.assertTrue(is_enough(net, n, one.raised(store, room + 1 if room < MOST else None)))

    def test_wrong_arguments(self):
        net = crossed()
        for call in [lambda net, n: is_enough(net, n, None), least_rooms, corners, lambda net, n: why_not(net, n, None),
                     lambda net, n: undercut(net, n, None), lambda net, n: cheapest(net, n, None)]:
            self.keeps_all(BadNet, strange_values(), lambda thing: call(thing, -1))
            self.keeps_all(BadNumber, strange_values() + [FAR + 1], lambda thing: call(net, thing))
        for call in [is_enough, why_not, undercut]:
            self.keeps_all(BadRooms, strange_values() + [Rooms({}), Rooms({"c": 5}), {"c": 1, "d": 1}],
                           lambda thing: call(net, 0, thing))
            self.keeps_equal(Small, "d", call, net, 0, Rooms({"c": 1, "d": 0}))

    def test_each_list_is_new(self):
        net = crossed()
        for call in [least_rooms, corners, lambda net, n: cheapest(net, n, {"c": 1, "d": 1})]:
            first = call(net, 3)
            first.append(None)
            self.assertNotIn(None, call(net, 3))
            self.assertIs(type(first), list)


class WhyNotTest(Case):
    def test_the_first_corner_in_order(self):
        net = Net({"ann": send("c") * 4 + send("d") * 3, "bob": take("c")})
        self.assertEqual(why_not(net, 0, Rooms({"c": 1, "d": 1})).pairs(), [("c", 2), ("d", None)])
        self.assertEqual(why_not(net, 0, Rooms({"c": 9, "d": 1})).pairs(), [("c", None), ("d", 2)])
        self.assertIsNone(why_not(net, 0, Rooms({"c": 3, "d": 3})))
        self.assertIsNone(why_not(net, 0, without_limit(net)))

    def test_undercut(self):
        net = crossed()
        self.assertEqual(undercut(net, 5, Rooms({"c": 7, "d": 7})).pairs(), [("c", 1), ("d", 5)])
        self.assertEqual(undercut(net, 5, Rooms({"c": 5, "d": 4})).pairs(), [("c", 5), ("d", 1)])
        self.assertEqual(undercut(net, 5, without_limit(net)).pairs(), [("c", 1), ("d", 5)])
        self.assertIsNone(undercut(net, 5, Rooms({"c": 4, "d": 4})))

    def test_cheapest(self):
        net = crossed()
        both = [[("c", 1), ("d", 5)], [("c", 5), ("d", 1)]]
        for prices, expected in [({"c": 1, "d": 1}, both), ({"c": 0, "d": 0}, both), ({"d": 2, "c": 3}, both[:1]),
                                 ({"c": 3, "d": 10 ** 6}, both[1:]), ({"c": 0, "d": 1}, both[1:])]:
            self.assertEqual(told(cheapest(net, 5, prices)), expected)
        self.assertEqual(told(cheapest(net, FAR, {"c": 1, "d": 2})), [[("c", FAR), ("d", 1)]])
        self.assertEqual(cheapest(Net({"ann": forever(send("c"))}), 0, {"c": 1}), [])

    def test_wrong_prices(self):
        net = crossed()
        wrong = [{}, {"c": 1}, {"c": 1, "d": 1, "e": 1}, {"c": 1, "e": 1}, {"c": -1, "d": 1}, {"c": 1, "d": 10 ** 6 + 1},
                 {"c": True, "d": 1}, {"c": 1, "d": None}, {"c": 1.0, "d": 1}, {"c": 1, 5: 1}, [("c", 1), ("d", 1)],
                 Rooms({"c": 1, "d": 1})]
        self.keeps_all(BadPrices, strange_values() + wrong, lambda thing: cheapest(net, 3, thing))
        # Prices come ahead of what the search for rooms raises.
        self.keeps(BadPrices, wrong[0], cheapest, relayed(), 63, wrong[0])
        given = {"d": 2, "c": 3}
        cheapest(net, 3, given)
        self.assertEqual(given, {"d": 2, "c": 3})


class DualTest(Case):
    def net(self, many):
        return Net({"ann": Row([("send", channel, 1) for channel in "abcdefghijkl"[:many]])})

    def rooms(self, *numbers):
        return Rooms(dict(zip("abcdefghijkl", numbers)))

    def test_ordinary(self):
        net = self.net(2)
        self.assertEqual(told(least_above(net, [])), [[("a", 1), ("b", 1)]])
        self.assertEqual(told(greatest_below(net, [])), [[("a", None), ("b", None)]])
        self.assertEqual(least_above(net, [without_limit(net)]), [])
        self.assertEqual(greatest_below(net, [least_possible(net)]), [])
        self.assertEqual(told(least_above(net, [self.rooms(4, 7)])), [[("a", 1), ("b", 8)], [("a", 5), ("b", 1)]])
        self.assertEqual(told(greatest_below(net, [self.rooms(4, 7)])), [[("a", 3), ("b", None)], [("a", None), ("b", 6)]])
        self.assertEqual(told(greatest_below(net, [self.rooms(1, 7), self.rooms(None, 9)])), [[("a", None), ("b", 6)]])

    def test_below_the_least_possible(self):
        net = self.net(2)
        self.assertEqual(told(least_above(net, [self.rooms(0, None), self.rooms(0, 0)])), [[("a", 1), ("b", 1)]])
        self.assertEqual(greatest_below(net, [self.rooms(0, 1)]), [])

    def test_numbers_next_to_none(self):
        net = self.net(2)
        self.assertEqual(told(least_above(net, [self.rooms(MOST, None)])), [[("a", None), ("b", 1)]])
        self.assertEqual(told(greatest_below(net, [self.rooms(None, 1)])), [[("a", MOST), ("b", None)]])
        self.assertEqual(told(greatest_below(net, [self.rooms(None, None)])), [[("a", MOST), ("b", None)], [("a", None), ("b", MOST)]])

    def test_against_all_of_a_small_grid(self):
        for seed in range(150):
            chance = random.Random(seed)
            many = chance.randint(0, 3)
            net = self.net(many)
            if many == 0:
                net = Net({"ann": work(1)})
            given = [self.rooms(*[chance.choice((0, 1, 2, 3, 4)) for _ in range(many)]) for _ in range(chance.randint(0, 5))]
            grid = [self.rooms(*numbers) for numbers in itertools.product(range(1, 6), repeat=many)]
            above = [one for one in grid if all(not one.fits(other) for other in given)]
            self.assertEqual(least_above(net, given),
                             [one for one in above if not any(other.fits(one) for other in above if other != one)])
            # A number that nothing forbids is left out of the grid: None stands for all from 5 on.
            wide = [self.rooms(*[None if number == 5 else number for number in numbers])
                    for numbers in itertools.product(range(1, 6), repeat=many)]
            below = [one for one in wide if all(not other.fits(one) for other in given)]
            self.assertEqual(greatest_below(net, given),
                             [one for one in below if not any(one.fits(other) for other in below if other != one)])

    def test_sixty_and_more(self):
        stairs = [self.rooms(number, 63 - number) for number in range(1, 63)]
        for many, given in [(59, stairs[:58]), (60, stairs[:59])]:
            self.assertEqual(len(least_above(self.net(2), given)), many)
        self.fails(TooMany, least_above, self.net(2), stairs[:60])
        self.fails(TooMany, greatest_below, self.net(2), stairs[:62])
        self.assertEqual(len(greatest_below(self.net(2), stairs[:60])), 60)
        # Many of them that each limit few stores, where most ways lead to nothing.
        for seed in range(20):
            chance = random.Random(seed)
            sparse = [self.rooms(*[chance.randint(1, 100) if store in chance.sample(range(6), 2) else None for store in range(6)])
                      for _ in range(60)]
            least = self.told_or_none(least_above, self.net(6), sparse)
            if least is not None:
                self.assertEqual(least_above(self.net(6), greatest_below(self.net(6), least)), least)
        single = [Rooms({**dict.fromkeys("abcdef"), store: number}) for store in "abcdef" for number in range(1, 40)]
        self.assertEqual(told(least_above(self.net(6), single)), [[(store, 40) for store in "abcdef"]])
        # Far more than sixty on the way, and in the end.
        chance = random.Random(1)
        wide = [self.rooms(*[chance.randint(1, 9) for _ in range(12)]) for _ in range(60)]
        self.fails(TooMany, least_above, self.net(12), wide)
        self.fails(TooMany, greatest_below, self.net(12), wide)

    def told_or_none(self, call, *given):
        try:
            return call(*given)
        except TooMany:
            return None

    def test_wrong_lists(self):
        net = self.net(2)
        right = self.rooms(1, 1)
        wrong = [value for value in strange_values() if value != []]
        wrong += [(right,), [right, None], [self.rooms(1)], [self.rooms(1, 1, 1)], [Rooms({"c": 1, "d": 1})], right,
                  [("a", 1)], [right, right.pairs()], {right: 1} if right.__hash__ else {}]
        for call in [least_above, greatest_below]:
            self.keeps_all(BadList, [value for value in wrong if not isinstance(value, list) or value], lambda thing: call(net, thing))
            self.keeps_all(BadNet, strange_values(), lambda thing: call(thing, None))
            given = [right]
            call(net, given).append(None)
            self.assertEqual(given, [right])
            self.assertNotIn(None, call(net, given))


if __name__ == "__main__":
    unittest.main()

"""[27], [28], [29] and [4] (g): policies, rooms that grow, and what that costs."""

import inspect
import itertools
import unittest

from leastrooms.corners import cheapest, is_enough, least_rooms
from leastrooms.ends import corner_of
from leastrooms.errors import (
    BadGroup, BadNet, BadNumber, BadPolicy, BadPrices, BadRooms, NoKnot, Small, TooLong, TooMany,
)
from leastrooms.growing import Cheap, Narrow, Policy, Wide, cost_of, grow, regret, regrets
from leastrooms.nets import Net
from leastrooms.rooms import Rooms, least_possible, without_limit
from leastrooms.rows import Row, forever, loop, send, take, work
from leastrooms.runs import run
from tests.helping import Case, bending_net, chance_net, chance_rooms, chances, crossing_net, strange_values, thick_net

FAR = 10 ** 30
MOST = 10 ** 200


def forced():
    return Net({"ann": loop("n", send("c") + send("d")) + send("e"), "bob": take("e") + loop("n", take("c") + take("d"))})


def crossed(one=5, other=3):
    return Net({"ann": loop(one, send("c")) + loop(other, take("d")), "bob": loop(other, send("d")) + loop(one, take("c"))})


def relayed():
    return Net({"ann": loop("n", send("c")) + send("d"), "bob": take("d") + loop("n", take("x")),
                "cid": forever(take("c") + send("x"))})


def waiting(rooms):
    """The moment at which the crossed ones wait for each other."""
    return run(crossed(), 0, rooms).moment


def by_steps(net, n, rooms, policy, most=300):
    """The rooms to which a policy leads, its picks, and whether they were forced: all is run again each time."""
    picks, is_forced = [], True
    found = run(net, n, rooms)
    while not found.is_enough:
        if len(picks) == most:
            return None
        knot = found.knots[0]
        corner = corner_of(found.moment, knot, found.movers)
        is_forced = is_forced and len(corner) == 1
        store = policy(found.moment, knot, found.movers)
        room = corner[store] + 1
        rooms = rooms.raised(store, None if room > MOST else room)
        picks.append(store)
        found = run(net, n, rooms)
    return rooms, picks, is_forced


class PolicyTest(Case):
    def test_classes(self):
        for one in [Narrow(), Wide(), Cheap({})]:
            self.assertIsInstance(one, Policy)
        for cls in (Policy, Narrow, Wide, Cheap):
            self.assertIn("__call__", vars(cls))
            self.assertIn("rank", vars(cls))
        self.assertNotIsInstance(Narrow(), Wide)

    def test_picks(self):
        for numbers, picks in [((1, 1), ["c", "c", "d", "c"]), ((2, 1), ["c", "d", "c", "d"]), ((1, 2), ["c", "c", "d", "d"]),
                               ((4, 2), ["c", "d", "c", "d"])]:
            now = waiting(Rooms(dict(zip(("c", "d"), numbers))))
            policies = [Policy(), Narrow(), Wide(), Cheap({"c": 2, "d": 1})]
            expected = ["c", min("cd", key=lambda store: now.rooms[store]), max("cd", key=lambda store: now.rooms[store]), "d"]
            self.assertEqual([policy(now, ["ann", "bob"]) for policy in policies], expected)

    def test_ties_go_to_the_first_store(self):
        now = waiting(Rooms({"c": 2, "d": 2}))
        for policy in [Policy(), Narrow(), Wide(), Cheap({}), Cheap({"c": 5, "d": 5}), Cheap({"x": 5})]:
            self.assertEqual(policy(now, ["ann", "bob"]), "c")
            self.assertEqual(policy(moment=now, knot=["ann", "bob"], movers=[]), "c")
        # The knot has the stores in the other order.
        turned = Net({"ann": loop(3, send("d")) + loop(3, take("c")), "bob": loop(3, send("c")) + loop(3, take("d"))})
        now = run(turned, 0, least_possible(turned)).moment
        self.assertEqual(list(corner_of(now, ["ann", "bob"])), ["d", "c"])
        for policy in [Policy(), Narrow(), Wide(), Cheap({})]:
            self.assertEqual(policy(now, ["ann", "bob"]), "c")

    def test_ranks(self):
        now = waiting(Rooms({"c": 3, "d": 2}))
        self.assertEqual([Policy().rank(now, "c", 3), Policy().rank(now, "d", 2)], [0, 0])
        self.assertEqual([Narrow().rank(now, "c", 3), Narrow().rank(now, "d", 2)], [3, 2])
        self.assertEqual([Wide().rank(now, "c", 3), Wide().rank(now, "d", 2)], [-3, -2])
        cheap = Cheap({"c": 7})
        self.assertEqual([cheap.rank(now, "c", 3), cheap.rank(now, "d", 2)], [7, 0])
        self.assertEqual(Cheap({"d": 10 ** 6}).rank(moment=now, store="d", corner=11), 10 ** 7)

    def test_growth_times_price(self):
        net = Net({"ann": send("c") * 2 + take("d") * 9, "bob": send("d", 4) + send("d", 4) + take("c") * 2})
        now = run(net, 0, least_possible(net)).moment
        corner = corner_of(now, ["ann", "bob"])
        self.assertEqual(corner, {"c": 1, "d": 7})
        self.assertEqual([Cheap({"c": 4, "d": 1}).rank(now, store, corner[store]) for store in "cd"], [4, 4])
        self.assertEqual(Cheap({"c": 4, "d": 1})(now, ["ann", "bob"]), "c")
        self.assertEqual(Cheap({"c": 5, "d": 1})(now, ["ann", "bob"]), "d")

    def test_wrong_arguments(self):
        now = waiting(Rooms({"c": 1, "d": 1}))
        for policy in [Policy(), Narrow(), Wide(), Cheap({})]:
            self.keeps_all(NoKnot, strange_values() + [["ann"], ("ann", "bob"), ["bob", "ann"]], lambda knot: policy(now, knot))
            self.keeps_all(BadGroup, ["ann", ["ann", "ann"], ["zed"], None, {"ann": 1}], lambda movers: policy(now, None, movers))
        wrong = [{"c": -1}, {"c": 10 ** 6 + 1}, {"c": True}, {"c": 1.0}, {"c": None}, {"C": 1}, {5: 1}, [("c", 1)], Rooms({"c": 1})]
        self.keeps_all(BadPrices, [value for value in strange_values() if value != {}] + wrong, Cheap)
        prices = {"c": 1}
        cheap = Cheap(prices)
        prices["c"] = 100
        self.assertEqual(cheap.rank(now, "c", 1), 1)


class GrowTest(Case):
    def test_the_example(self):
        far = grow(forced(), FAR, least_possible(forced()), Policy())
        self.assertEqual([far.rooms.total == 2 * FAR + 1, far.many == 2 * FAR - 2, far.is_forced], [True, True, True])
        some = [grow(crossed(), 0, Rooms({"c": 1, "d": 1}), policy) for policy in (Policy(), Cheap({"c": 2, "d": 1}))]
        self.assertEqual([[one.rooms.pairs(), one.many, one.is_forced] for one in some],
                         [[[("c", 5), ("d", 1)], 4, False], [[("c", 1), ("d", 3)], 2, False]])

    def test_rooms_that_are_enough(self):
        rooms = Rooms({"c": 9, "d": None, "e": 1})
        found = grow(forced(), 3, Rooms({"c": 9, "d": None, "e": 1}), Policy())
        self.assertEqual([found.rooms, found.many, found.is_forced, found.picks], [rooms, 0, True, ()])
        self.assertEqual(list(found.one_by_one()), [])

    def test_picks(self):
        found = grow(forced(), 4, Rooms({"c": 1, "d": 2, "e": 1}), Policy())
        self.assertEqual(list(found.one_by_one()), ["c", "c", "d", "c", "d"])
        self.assertEqual(found.rooms.pairs(), [("c", 4), ("d", 4), ("e", 1)])
        far = grow(forced(), FAR, least_possible(forced()), Policy())
        self.assertEqual(list(itertools.islice(far.one_by_one(), 6)), ["c", "d"] * 3)
        self.assertIs(type(far.picks), tuple)
        self.assertTrue(inspect.isgeneratorfunction(type(far).one_by_one))

    def test_growth_to_none(self):
        alone = Net({"ann": forever(send("c"))})
        found = grow(alone, 0, Rooms({"c": MOST - 5}), Policy())
        self.assertEqual([found.rooms.pairs(), found.many, found.is_forced], [[("c", None)], 6, True])
        pairs = Net({"ann": forever(send("c", 7))})
        self.assertEqual(grow(pairs, 0, Rooms({"c": MOST}), Narrow()).many, 1)
        self.fails(TooLong, grow, alone, 0, Rooms({"c": 1}), Policy())

    def test_far_growth_that_is_not_forced(self):
        for policy, expected in [(Policy(), [("c", FAR), ("d", 1)]), (Wide(), [("c", FAR), ("d", 1)]),
                                 (Cheap({"c": 2, "d": 1}), [("c", 1), ("d", FAR - 7)])]:
            net = crossed("n", "n-7")
            found = grow(net, FAR, least_possible(net), policy)
            self.assertEqual([found.rooms.pairs(), found.is_forced], [expected, False])
            self.assertEqual(found.many, FAR - 1 if expected[0][1] == FAR else FAR - 8)
        # By turns, till the lesser one is enough.
        found = grow(crossed("n", "n-7"), FAR, Rooms({"c": 1, "d": 1}), Narrow())
        self.assertEqual(found.rooms.pairs(), [("c", FAR - 7), ("d", FAR - 7)])
        self.assertEqual(found.many, 2 * (FAR - 8))

    def test_far_growth_of_shared_and_relayed_stores(self):
        shared = Net({"ann": loop("n", send("c")) + loop("n", send("d")), "bob": loop("n", take("d")) + loop("n", take("c"))},
                     None, {"s": ["c", "d"]})
        found = grow(shared, FAR, Rooms({"s": 1}), Wide())
        self.assertEqual([found.rooms["s"], found.many, found.is_forced], [FAR + 1, FAR, True])
        relay = Net({"ann": loop("n", send("c")) + send("d"), "bob": take("d") + loop("n", take("x")),
                     "cid": loop("n", take("c") + send("x"))})
        found = grow(relay, FAR, least_possible(relay), Cheap({"c": 1, "x": 2}))
        self.assertTrue(is_enough(relay, FAR, found.rooms))
        self.assertFalse(found.is_forced)

    def test_not_less_than_what_is_given(self):
        found = grow(forced(), 5, Rooms({"c": 7, "d": 1, "e": 3}), Policy())
        self.assertEqual([found.rooms.pairs(), found.many], [[("c", 7), ("d", 5), ("e", 3)], 4])
        far = grow(forced(), FAR, Rooms({"c": FAR - 1000, "d": 7, "e": 3}), Policy())
        self.assertEqual(far.rooms.pairs(), [("c", FAR), ("d", FAR), ("e", 3)])

    def test_against_running_again(self):
        counted = {"grown": 0, "short": 0, "forced": 0, "free": 0}
        for chance in chances(180, 95):
            net = chance.choice((crossing_net, thick_net, bending_net, lambda one: chance_net(one, 0.2)))(chance)
            n = chance.choice((0, 1, 3, 6, 13, 20))
            prices = {store: chance.randint(0, 3) for store in net.stores}
            for policy in [Policy(), Narrow(), Wide(), Cheap(prices)]:
                rooms = chance.choice((least_possible(net), chance_rooms(chance, net)))
                expected = by_steps(net, n, rooms, policy, 150)
                if expected is None:
                    continue
                found = grow(net, n, rooms, policy)
                self.assertEqual([found.rooms, list(found.one_by_one()), found.is_forced], list(expected))
                self.assertEqual(found.many, len(expected[1]))
                self.assertTrue(is_enough(net, n, found.rooms))
                self.assertTrue(rooms.fits(found.rooms))
                counted["grown"] += found.many > 0
                counted["short"] += "times" in str(found.picks)
                counted["forced" if found.is_forced else "free"] += found.many > 0
                if found.is_forced:
                    self.look_at_forced(net, n, rooms, found)
        self.assertGreater(min(counted.values()), 20, counted)

    def look_at_forced(self, net, n, rooms, found):
        least = least_rooms(net, n)
        for one in least:
            self.assertTrue(found.rooms.fits(one | rooms))
        if rooms == least_possible(net):
            self.assertEqual(least, [found.rooms])

    def test_far_nets_by_chance(self):
        for chance in chances(60, 96):
            net = chance.choice((crossing_net, thick_net))(chance)
            for policy in [Policy(), Narrow(), Wide(), Cheap({store: chance.randint(0, 3) for store in net.stores})]:
                found = grow(net, FAR, least_possible(net), policy)
                self.assertTrue(is_enough(net, FAR, found.rooms))
                least = least_rooms(net, FAR)
                self.assertTrue(any(one.fits(found.rooms) for one in least))
                if found.is_forced:
                    self.assertEqual(least, [found.rooms])

    def test_wrong_arguments(self):
        net = crossed()
        right = Rooms({"c": 1, "d": 1})
        self.keeps_all(BadNet, strange_values(), lambda thing: grow(thing, -1, None, None))
        self.keeps_all(BadNumber, strange_values() + [FAR + 1], lambda thing: grow(net, thing, None, None))
        self.keeps_all(BadRooms, strange_values() + [Rooms({})], lambda thing: grow(net, 0, thing, None))
        self.keeps_equal(Small, "c", grow, net, 0, Rooms({"c": 0, "d": 0}), None)
        self.keeps_all(BadPolicy, strange_values() + [Policy, Narrow, {"c": 1}, corner_of], lambda thing: grow(net, 0, right, thing))
        self.assertEqual(right.pairs(), [("c", 1), ("d", 1)])


class CostTest(Case):
    def test_cost(self):
        self.assertEqual(cost_of(Rooms({"c": 3, "d": 5}), {"d": 2, "c": 10}), 40)
        self.assertEqual(cost_of(Rooms({"c": MOST}), {"c": 10 ** 6}), MOST * 10 ** 6)
        self.assertEqual([cost_of(Rooms({}), {}), cost_of(Rooms({"c": 3}), {"c": 0})], [0, 0])

    def test_wrong_costs(self):
        rooms = Rooms({"c": 3, "d": 5})
        self.keeps_all(BadRooms, strange_values() + [Rooms({"c": None, "d": 5}), {"c": 3}], lambda thing: cost_of(thing, None))
        wrong = [{}, {"c": 1}, {"c": 1, "d": 1, "e": 1}, {"c": 1, "d": True}, {"c": 1, "d": -1}, {"c": 10 ** 6 + 1, "d": 1}]
        self.keeps_all(BadPrices, strange_values() + wrong, lambda thing: cost_of(rooms, thing))

    def test_regret(self):
        net = crossed()
        prices = {"c": 1, "d": 1}
        self.assertEqual(regrets(net, 0, prices), [("first", 2), ("narrow", 2), ("wide", 2), ("cheap", 2)])
        self.assertEqual([regret(net, 0, prices, policy) for policy in (Policy(), Narrow(), Wide(), Cheap(prices))], [2, 2, 2, 2])
        dear = {"c": 2, "d": 1}
        self.assertEqual(regrets(net, 0, dear), [("cheap", 0), ("narrow", 4), ("first", 6), ("wide", 6)])
        self.assertEqual(regrets(net, 0, {"c": 0, "d": 0}), [("first", 0), ("narrow", 0), ("wide", 0), ("cheap", 0)])

    def test_regrets_by_chance(self):
        for chance in chances(60, 97):
            net = crossing_net(chance)
            n = chance.choice((2, 5, FAR))
            prices = {store: chance.randint(0, 5) for store in net.stores}
            least = cost_of(cheapest(net, n, prices)[0], prices)
            policies = [("first", Policy()), ("narrow", Narrow()), ("wide", Wide()), ("cheap", Cheap(prices))]
            costs = [(word, cost_of(grow(net, n, least_possible(net), policy).rooms, prices) - least) for word, policy in policies]
            found = regrets(net, n, prices)
            self.assertEqual(found, sorted(costs, key=lambda one: one[1]))
            self.assertEqual([type(one) for one in found], [tuple] * 4)
            self.assertEqual([regret(net, n, prices, policy) for _, policy in policies], [cost for _, cost in costs])

    def test_wrong_arguments(self):
        net = crossed()
        prices = {"c": 1, "d": 1}
        for call in [lambda *given: regret(*given, None), regrets]:
            self.keeps_all(BadNet, strange_values(), lambda thing: call(thing, -1, None))
            self.keeps_all(BadNumber, strange_values() + [FAR + 1], lambda thing: call(net, thing, None))
            wrong = [{}, {"c": 1}, {"c": 1, "d": 1, "e": 1}, {"c": 1, "d": True}, {"c": 1, "d": -1}, {"c": 1, "e": 1}]
            self.keeps_all(BadPrices, strange_values() + wrong, lambda thing: call(net, 0, thing))
        self.keeps_all(BadPolicy, strange_values() + [Policy], lambda thing: regret(net, 0, prices, thing))
        self.keeps(BadPrices, None, regrets, relayed(), 63, None)
        self.keeps(BadPolicy, None, regret, relayed(), 63, {"c": 1, "d": 1, "x": 1}, None)
        self.fails(TooMany, regrets, relayed(), 63, {"c": 1, "d": 1, "x": 1})
        self.assertEqual(prices, {"c": 1, "d": 1})

    def test_a_net_without_stores(self):
        net = Net({"ann": work(1), "bob": Row()})
        self.assertEqual(regrets(net, 0, {}), [("first", 0), ("narrow", 0), ("wide", 0), ("cheap", 0)])
        self.assertEqual(grow(net, 0, without_limit(net), Policy()).many, 0)
        self.assertEqual(regret(net, 0, {}, Cheap({"zed": 3})), 0)


if __name__ == "__main__":
    unittest.main()

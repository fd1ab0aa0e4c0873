"""[19]: what makes searches short: segments of nets, slow walks, and what is kept of runs."""

import unittest

from leastrooms.errors import TooLong, TooMany
from leastrooms.moments import Grounds, begin
from leastrooms.nets import Net
from leastrooms.outcomes import Outcomes
from leastrooms.rooms import NO_LIMIT, Rooms, least_possible, without_limit
from leastrooms.rows import Row, forever, loop, send, take, work
from leastrooms.searches import Probe, Search
from leastrooms.segments import segments_of
from leastrooms.walks import Walk
from tests.helping import Case, bending_net, chance_net, chances, crossing_net, thick_net

FAR = 10 ** 30


def texts_of(net, n):
    """The programs of all segments, as texts."""
    return [{process: str(Row(parts)) for process, parts in segment.programs.items() if parts}
            for segment in segments_of(net, n)]


def chance_kinds(chance):
    """A net made by chance, of any kind."""
    return chance.choice((
        lambda: chance_net(chance, 0.3), lambda: crossing_net(chance), lambda: crossing_net(chance, True),
        lambda: thick_net(chance), lambda: bending_net(chance),
    ))()


class SegmentsTest(Case):
    def test_one_behind_another(self):
        net = Net({"ann": send("c") + take("d") + work(3) + loop("n", send("c")) + send("e"),
                   "bob": send("d") + take("c") + loop("n", take("c")), "cid": work(5) + take("e")})
        self.assertEqual(texts_of(net, 4), [
            {"ann": "send c; take d", "bob": "send d; take c"}, {"ann": "send c", "bob": "take c"},
            {"ann": "send e", "cid": "take e"},
        ])
        self.assertEqual(texts_of(net, 0), [
            {"ann": "send c; take d", "bob": "send d; take c"}, {"ann": "send e", "cid": "take e"},
        ])

    def test_what_is_repeated_is_told_once(self):
        body = Net({"ann": loop(FAR, send("c") + loop("n", send("d"))), "bob": loop(FAR, take("c") + loop("n", take("d")))})
        self.assertEqual(texts_of(body, 5), [{"ann": "send c", "bob": "take c"}, {"ann": "send d", "bob": "take d"}])
        endless = Net({"ann": work(1) + forever(send("c") + take("d")), "bob": forever(send("d") + take("c"))})
        self.assertEqual(texts_of(endless, 0), [{"ann": "send c; take d", "bob": "send d; take c"}])

    def test_other_rounds_are_told_as_they_are(self):
        net = Net({"ann": loop(6, send("c")), "bob": loop(3, take("c") + take("c"))})
        self.assertEqual(texts_of(net, 0), [{"ann": "loop 6 (send c)", "bob": "loop 3 (take c; take c)"}])
        uneven = Net({"ann": forever(send("c")), "bob": forever(take("c") + take("c"))})
        self.assertEqual(texts_of(uneven, 0), [{"ann": "forever (send c)", "bob": "forever (take c; take c)"}])

    def test_messages_that_are_left(self):
        net = Net({"ann": send("c") + send("c") + send("d"), "bob": take("c") + take("d")})
        self.assertEqual(texts_of(net, 0), [
            {"ann": "send c", "bob": "take c"}, {"ann": "send c; send d", "bob": "take d"},
        ])
        first = Net({"ann": send("c") + send("d"), "bob": take("c", 2) + take("d")}, {"c": 1})
        self.assertEqual(texts_of(first, 0), [{"ann": "send c", "bob": "take c 2"}, {"ann": "send d", "bob": "take d"}])
        self.assertEqual([segment.levels for segment in segments_of(first, 0)], [{"c": 1, "d": 0}, {"c": 0, "d": 0}])
        never = Net({"ann": send("d"), "bob": take("d"), "cid": take("c")}, {"c": 2})
        self.assertEqual(len(segments_of(never, 0)), 1)

    def test_nothing_moves(self):
        self.assertEqual(segments_of(Net({"ann": work(5), "bob": loop(0, send("c"))}), 3), [])

    def test_segments_that_never_end_tell_nothing_of_the_next_ones(self):
        # Both wait for each other at first, so what comes behind is never done, however many messages balance.
        net = Net({"ann": take("d") + send("c") + loop(9, send("e")) + take("f"),
                   "bob": take("c") + send("d") + send("f") + loop(9, take("e"))})
        self.assertEqual(len(segments_of(net, 0)), 2)
        self.assertEqual([Search(net, 0).corners, Search(net, 0).enough], [[], [(1, 1, 1, 1)]])
        # In the first round cid waits for ever; ann goes on to later rounds.
        rounds = Net({"ann": loop(5, send("c")), "bob": loop(5, take("d") + take("c")), "cid": loop(5, take("e") + send("d")),
                      "dan": loop(5, take("x") + send("e") + send("y")), "eva": loop(5, take("y") + send("x"))})
        found = Search(rounds, 0)
        self.assertEqual(found.corners, [(4,) + (NO_LIMIT,) * 4])

    def test_searches_by_segments_and_as_a_whole(self):
        parted = 0
        for chance in chances(250, 141):
            net = chance_kinds(chance)
            n = chance.choice((0, 1, 2, 5, 10 ** 12))
            try:
                whole = Probe(begin(net, n, without_limit(net)), ()).corners
            except (TooLong, TooMany):
                continue
            try:
                self.assertEqual(Search(net, n).corners, whole)
            except TooMany:
                self.assertGreater(len(whole), 20)
            parted += len(segments_of(net, n)) > 1
        self.assertGreater(parted, 20)


class LikelyTest(Case):
    def test_what_is_likely_changes_no_answer(self):
        for chance in chances(150, 142):
            net = chance_kinds(chance)
            n = chance.randint(0, 4)
            try:
                found = Search(net, n)
            except (TooLong, TooMany):
                continue
            likely = [tuple(chance.choice((number, number + 1, number - 1, NO_LIMIT, 0, 1, NO_LIMIT + 1)) for number in corner)
                      for corner in found.corners + found.enough]
            for told in (likely, found.corners, found.enough, found.corners * 2):
                again = Search(net, n, told)
                self.assertEqual([again.enough, again.corners], [found.enough, found.corners])


class SlowWalkTest(Case):
    def test_as_little_as_possible_is_in_the_slow_store(self):
        exact = 0
        for chance in chances(250, 143):
            net = chance_kinds(chance)
            n = chance.choice((0, 1, 2, 5, 10 ** 12))
            if not net.stores:
                continue
            store = chance.choice(net.stores)
            start = begin(net, n, least_possible(net).raised(store, None))
            try:
                walk = Walk(start, True, False, store)
                plain = Walk(start, True)
            except TooLong:
                continue
            self.assertEqual(walk.waits_for_room(), plain.waits_for_room())
            self.assertEqual(walk.moving, plain.moving)
            if walk.waits_for_room():
                continue
            most = walk.most_held().get(store, 0)
            if most is None:
                self.assertIsNone(plain.most_held()[store])
                continue
            room = max(most, net.least_room(store))
            self.assertFalse(Walk(begin(net, n, least_possible(net).raised(store, room)), True).waits_for_room())
            if room > net.least_room(store):
                less = Walk(begin(net, n, least_possible(net).raised(store, room - 1)), True)
                exact += less.waits_for_room()
                if not walk.moving:
                    self.assertTrue(less.waits_for_room())
        self.assertGreater(exact, 30)

    def test_others_that_go_on_for_ever(self):
        # Both others never stop, but ann's messages are sent all the same.
        net = Net({"ann": loop("n", send("p")), "bob": forever(work(1) + send("q")), "cid": forever(take("q") + work(2)),
                   "dan": loop("n", take("p"))})
        walk = Walk(begin(net, FAR, Rooms({"p": None, "q": 1})), True, False, "p")
        self.assertFalse(walk.waits_for_room())
        self.assertEqual(walk.moving, ["bob", "cid"])


class OutcomesTest(Case):
    def test_all_told(self):
        for chance in chances(100, 144):
            net = chance_kinds(chance)
            n = chance.randint(0, 4)
            try:
                found = Search(net, n)
                outcomes = Outcomes(Grounds(net))
                self.assertTrue(outcomes.tell_all(n, found.enough, found.corners))
                for at in range(len(found.corners)):
                    self.assertFalse(outcomes.tell_all(n, found.enough, found.corners[:at] + found.corners[at + 1:]))
                for at in range(len(found.enough)):
                    self.assertFalse(outcomes.tell_all(n, found.enough[:at] + found.enough[at + 1:], found.corners))
                if net.stores:
                    more = [tuple(min(number + 1, NO_LIMIT) for number in numbers) for numbers in found.enough]
                    self.assertEqual(outcomes.tell_all(n, more, found.corners), more == found.enough)
            except (TooLong, TooMany):
                continue

    def test_rooms_that_are_impossible(self):
        net = Net({"ann": send("c", 3), "bob": take("c")})
        outcomes = Outcomes(Grounds(net))
        self.assertTrue(outcomes.tell_all(0, [(3,)], []))
        self.assertFalse(outcomes.tell_all(0, [(3,)], [(2,)]))
        self.assertFalse(outcomes.tell_all(0, [(2,)], []))
        self.assertFalse(outcomes.tell_all(0, [(NO_LIMIT + 1,)], []))


if __name__ == "__main__":
    unittest.main()

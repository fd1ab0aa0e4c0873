"""[22], [23] and [4] (b), (c), (e): papers, who waits in them for whom, and certificates."""

import inspect
import random
import unittest

from leastrooms.corners import corners, least_rooms
from leastrooms.courses import Course
from leastrooms.ends import is_knot
from leastrooms.errors import BadNet, BadNumber, BadRooms, BadVector, NotSo, Small, TooMany
from leastrooms.moments import begin
from leastrooms.nets import Net
from leastrooms.papers import (
    certificate, enough_paper, is_enough_paper, is_stuck_paper, judge, rooms_of, stuck_paper, vector_of, waits_in,
)
from leastrooms.rooms import Rooms
from leastrooms.rows import Row, forever, loop, send, take, work
from leastrooms.runs import run
from tests.helping import Case, Strange, chance_net, chance_rooms, chances, crossing_net, strange_values
from tests.playing import play

FAR = 10 ** 30
MOST = 10 ** 200


def meeting():
    return Net({"ann": loop("n", send("c")) + send("d"), "bob": take("d") + loop("n", take("c"))})


def crossed():
    return Net({"ann": loop("n", send("c")) + loop("n", take("d")), "bob": loop("n", send("d")) + loop("n", take("c"))})


class VectorTest(Case):
    def test_ordinary(self):
        net = meeting()
        for vector in [(1, 1), (5, None), (None, None), (MOST, 2)]:
            rooms = rooms_of(net, vector)
            self.assertEqual(rooms, Rooms(dict(zip(("c", "d"), vector))))
            self.assertEqual(vector_of(net, rooms), vector)
        none = Net({"ann": work(1)})
        self.assertEqual(vector_of(none, Rooms({})), ())
        self.assertEqual(rooms_of(none, ()), Rooms({}))

    def test_wrong(self):
        net = meeting()
        wrong = [(1,), (1, 1, 1), (0, 1), (1, 0), (-1, 1), [1, 1], (1, MOST + 1), (True, 1), (1, 1.0), ("1", 1), (),
                 Rooms({"c": 1, "d": 1}), ((1, 1),), {"c": 1, "d": 1}, (Strange(), 1)]
        values = [value for value in strange_values() if value not in ((None, None),)]
        self.keeps_all(BadVector, values + wrong, lambda thing: rooms_of(net, thing))
        self.keeps_all(BadNet, strange_values(), lambda thing: rooms_of(thing, None))
        self.keeps_all(BadNet, strange_values(), lambda thing: vector_of(thing, None))
        self.keeps_all(BadRooms, strange_values() + [(1, 1), Rooms({"c": 1})], lambda thing: vector_of(net, thing))
        self.keeps_equal(Small, "c", vector_of, net, Rooms({"c": 0, "d": 1}))


class PaperTest(Case):
    def test_the_example(self):
        net = meeting()
        paper = stuck_paper(net, 5, Rooms({"c": 4, "d": None}))
        whole = certificate(net, 5)
        self.assertEqual(paper[:2], ("stuck", (4, None)))
        self.assertEqual(list(waits_in(net, 5, paper)), [("ann", "full", "c", ("bob",)), ("bob", "empty", "d", ("ann",))])
        self.assertEqual([judge(net, 5, whole), judge(net, 5, ("certificate", whole[1], ())), judge(net, 6, whole)],
                         [("accepted",), ("cover", (1, 1)), ("enough", 0)])
        self.assertTrue(is_enough_paper(net, 2, ("enough", (2, 1), ("ann", "ann", "ann", "bob", "bob", "bob"))))
        self.assertFalse(is_enough_paper(net, 2, ("enough", (2, 1), ("ann", "ann"))))

    def test_papers_that_are_none(self):
        net = meeting()
        for rooms, right, wrong in [(Rooms({"c": 5, "d": 1}), enough_paper, stuck_paper),
                                    (Rooms({"c": 4, "d": None}), stuck_paper, enough_paper)]:
            paper = right(net, 5, rooms)
            self.assertEqual(paper[1], vector_of(net, rooms))
            self.assertIs(type(paper), tuple)
            self.keeps(NotSo, rooms, wrong, net, 5, rooms)
            self.assertEqual([is_enough_paper(net, 5, paper), is_stuck_paper(net, 5, paper)],
                             [right is enough_paper, right is stuck_paper])

    def test_papers_made_by_hand(self):
        net = meeting()
        far = (("times", FAR - 1, ("ann",)), "ann", "ann", "bob", ("times", FAR - 1, ("bob",)), "bob")
        self.assertTrue(is_enough_paper(net, FAR, ("enough", (FAR, 1), far)))
        self.assertTrue(is_enough_paper(net, FAR, ("enough", (None, 1), far)))
        self.assertFalse(is_enough_paper(net, FAR, ("enough", (FAR - 1, 1), far)))
        self.assertFalse(is_enough_paper(net, FAR - 1, ("enough", (FAR, 1), far)))
        stuck = (("times", FAR - 1, ("ann",)),)
        self.assertTrue(is_stuck_paper(net, FAR, ("stuck", (FAR - 1, 1), stuck, ("ann", "bob"))))
        for paper in [("stuck", (FAR - 1, 1), stuck, ("ann",)), ("stuck", (FAR - 1, 1), stuck, ("bob", "ann")),
                      ("stuck", (FAR - 1, 1), stuck, ("ann", "bob", "bob")), ("stuck", (FAR - 1, 1), stuck, ()),
                      ("stuck", (FAR, 1), stuck, ("ann", "bob")), ("stuck", (FAR - 2, 1), stuck, ("ann", "bob")),
                      ("stuck", (FAR - 1, 1), stuck + ("ann",), ("ann", "bob")), ("stuck", (FAR - 1, 1), (), ("ann", "bob")),
                      ("stuck", (FAR - 1, 1), stuck, ["ann", "bob"]), ("stuck", (FAR - 1, 1), stuck, ("ann", "zed"))]:
            self.assertFalse(is_stuck_paper(net, FAR, paper))

    def test_a_stuck_paper_ahead_of_the_end(self):
        # The knot is there long before all others have come to their end.
        net = Net({"ann": send("c") * 2, "bob": loop(FAR, work(1)), "cid": take("c")})
        self.assertFalse(is_stuck_paper(net, 0, ("stuck", (1,), ("ann",), ("ann",))))
        net = Net({"ann": send("c") * 2, "bob": loop(FAR, work(1)) + forever(send("d"))})
        self.assertTrue(is_stuck_paper(net, 0, ("stuck", (1, 1), ("ann",), ("ann",))))
        self.assertFalse(is_enough_paper(net, 0, ("enough", (2, None), ("ann", "ann"))))

    def test_papers_of_endless_runs(self):
        net = Net({"ann": forever(send("c")), "bob": forever(take("c") + work(1)), "cid": send("d") * 2, "dan": take("x")})
        items = ("cid", ("times", None, ("ann", "bob", "bob")))
        self.assertTrue(is_stuck_paper(net, 0, ("stuck", (1, 1, 1), items, ("cid",))))
        self.assertTrue(is_enough_paper(net, 0, ("enough", (1, 2, 1), ("cid",) + items)))
        self.assertFalse(is_enough_paper(net, 0, ("enough", (1, 2, 1), items)))
        self.assertFalse(is_enough_paper(net, 0, ("enough", (1, 1, 1), items)))
        self.assertFalse(is_enough_paper(net, 0, ("enough", (1, 2, 1), ("cid", "cid"))))
        self.assertFalse(is_enough_paper(net, 0, ("enough", (1, 2, 1), ("cid", "cid", "ann", "bob", "bob"))))
        self.assertFalse(is_enough_paper(net, 0, ("enough", (1, 2, 1), ("cid", "cid", ("times", None, ("ann", "bob"))))))
        for rooms in [Rooms({"c": 1, "d": 2, "x": 1}), Rooms({"c": None, "d": None, "x": 7})]:
            self.assertTrue(is_enough_paper(net, 0, enough_paper(net, 0, rooms)))

    def test_all_other_forms(self):
        net = crossed()
        enough = enough_paper(net, 3, Rooms({"c": 1, "d": 3}))
        stuck = stuck_paper(net, 3, Rooms({"c": 2, "d": 2}))
        wrong = strange_values() + [
            list(enough), enough[:2], enough + ((),), ("stuck",) + enough[1:], ("Enough",) + enough[1:], ("enough", (3, 1)),
            ("enough", list(enough[1]), enough[2]), ("enough", enough[1], list(enough[2])), (Strange(),) + enough[1:],
            ("enough", (1,), enough[2]), ("enough", (0, 3), enough[2]), ("enough", (1, True), enough[2]),
            ("enough", Strange(), enough[2]), ("enough", enough[1], Strange()), ("enough", enough[1], "ann"),
            ("enough", enough[1], (Strange(),)), ("enough", enough[1], Course(enough[2])), ("enough", enough[1], (None,)),
            list(stuck), stuck[:3], stuck + ((),), ("enough",) + stuck[1:], stuck[:3] + (list(stuck[3]),),
            stuck[:3] + (None,), stuck[:3] + ("ann",), stuck[:3] + ((None,),), stuck[:3] + ((Strange(),),),
            stuck[:3] + (Strange(),), ("stuck", None) + stuck[2:], ("stuck", stuck[1], None, stuck[3]),
            (Strange(),) + stuck[1:],
        ]
        for thing in wrong:
            self.assertIs(is_enough_paper(net, 3, thing), False)
            self.assertIs(is_stuck_paper(net, 3, thing), False)
        self.assertIs(is_enough_paper(net, 3, enough), True)
        self.assertIs(is_stuck_paper(net, 3, stuck), True)

    def test_papers_by_chance(self):
        counted = {True: 0, False: 0}
        for chance in chances(300, 81):
            net = crossing_net(chance) if chance.random() < 0.5 else chance_net(chance, chance.choice((0, 0.5)))
            n, rooms = chance.randint(0, 3), chance_rooms(chance, net)
            found = run(net, n, rooms)
            paper = enough_paper(net, n, rooms) if found.is_enough else stuck_paper(net, n, rooms)
            self.assertTrue(self.looks_right(net, n, paper))
            for _ in range(5):
                other = self.changed(chance, net, paper)
                right = self.looks_right(net, n, other)
                counted[right] += 1
                self.assertEqual(is_enough_paper(net, n, other), right and other[0] == "enough")
                self.assertEqual(is_stuck_paper(net, n, other), right and other[0] == "stuck")
                if right and other[0] == "enough":
                    self.assertTrue(run(net, n, rooms_of(net, other[1])).is_enough)
                if right and other[0] == "stuck":
                    self.assertFalse(run(net, n, rooms_of(net, other[1])).is_enough)
        self.assertGreater(min(counted.values()), 100)

    def changed(self, chance, net, paper):
        """The paper with something left out, doubled, exchanged, or another vector, word or knot."""
        paper = list(paper)
        items = list(paper[2])
        kind = chance.randrange(7)
        if kind == 0:
            vector = list(paper[1])
            if vector:
                at = chance.randrange(len(vector))
                least = net.least_room(net.stores[at])
                vector[at] = None if chance.random() < 0.3 else max(least, (vector[at] or 5) + chance.choice((-1, 1)))
            paper[1] = tuple(vector)
        elif kind == 1 and items:
            del items[chance.randrange(len(items))]
        elif kind == 2 and items:
            items.insert(chance.randrange(len(items)), items[0])
        elif kind == 3 and len(items) > 1:
            at = chance.randrange(len(items) - 1)
            items[at], items[at + 1] = items[at + 1], items[at]
        elif kind == 4:
            paper = ["stuck" if paper[0] == "enough" else "enough"] + paper[1:3] + [("ann",)] * (paper[0] == "enough")
        elif kind == 5 and paper[0] == "stuck":
            paper[3] = tuple(chance.sample(net.processes, chance.randint(0, len(net.processes))))
        elif items:
            paper[2] = tuple(items)
            return tuple(paper)
        paper[2] = tuple(items)
        return tuple(paper)

    def looks_right(self, net, n, paper):
        """Whether a paper of the right form is right, by each of its steps."""
        try:
            Course(paper[2])
        except ValueError:
            return False
        reached = play(begin(net, n, rooms_of(net, paper[1])), paper[2])
        if isinstance(reached, int):
            return False
        last = paper[2][-1] if paper[2] else "zed"
        movers = sorted(set(self.words(last[2]))) if not isinstance(last, str) and last[1] is None else []
        if paper[0] == "stuck":
            return is_knot(reached, list(paper[3]), movers)
        waits = [reached.wait(process) for process in net.processes if process not in movers]
        return all(wait is not None and wait[0] in ("ended", "empty") for wait in waits)

    def words(self, items):
        for item in items:
            if isinstance(item, str):
                yield item
            else:
                yield from self.words(item[2])

    def test_wrong_arguments(self):
        net = meeting()
        for call in [enough_paper, stuck_paper, is_enough_paper, is_stuck_paper, judge, lambda net, n, _: certificate(net, n),
                     lambda *given: list(waits_in(*given))]:
            self.keeps_all(BadNet, strange_values(), lambda thing: call(thing, -1, None))
            self.keeps_all(BadNumber, strange_values() + [FAR + 1], lambda thing: call(net, thing, None))
        for call in [enough_paper, stuck_paper]:
            self.keeps_all(BadRooms, strange_values() + [(1, 1), Rooms({"c": 1})], lambda thing: call(net, 0, thing))
            self.keeps_equal(Small, "d", call, net, 0, Rooms({"c": 1, "d": 0}))


class WaitsTest(Case):
    def test_takers_of_a_shared_store(self):
        net = Net({"ann": send("c") + send("d") + send("e") + send("x"), "bob": take("x") + take("c"),
                   "cid": take("w") + take("d"), "dan": take("e")}, None, {"s": ["c", "d", "e"]})
        for room, helpers in [(1, ("bob",)), (2, ("bob", "cid"))]:
            paper = stuck_paper(net, 0, Rooms({"s": room, "w": 1, "x": 1}))
            self.assertEqual(list(waits_in(net, 0, paper)), [("ann", "full", "s", helpers), ("bob", "empty", "x", ("ann",))])

    def test_no_taker_and_one_for_two_channels(self):
        net = Net({"ann": send("c") + send("d") + send("e") + send("c") + send("x"), "bob": take("x") + take("c") + take("d")},
                  None, {"s": ["c", "d", "e"]})
        waits = list(waits_in(net, 0, stuck_paper(net, 0, Rooms({"s": 3, "x": 1}))))
        self.assertEqual(waits, [("ann", "full", "s", ("bob",)), ("bob", "empty", "x", ("ann",))])
        alone = Net({"ann": send("c") * 2})
        self.assertEqual(list(waits_in(alone, 0, stuck_paper(alone, 0, Rooms({"c": 1})))), [("ann", "full", "c", ())])

    def test_a_knot_beside_movers(self):
        net = Net({"ann": send("c") * 3, "bob": take("c") + forever(work(1))})
        paper = stuck_paper(net, 0, Rooms({"c": 1}))
        self.assertEqual(list(waits_in(net, 0, paper)), [("ann", "full", "c", ("bob",))])

    def test_no_right_paper(self):
        net = meeting()
        enough = enough_paper(net, 2, Rooms({"c": 2, "d": 1}))
        self.assertTrue(inspect.isgeneratorfunction(waits_in))
        self.keeps_all(NotSo, strange_values() + [enough, ("stuck", (1, 1), (), ("ann", "bob"))],
                       lambda thing: list(waits_in(net, 2, thing)))


class JudgeTest(Case):
    def test_certificates_tell_all(self):
        for seed in range(120):
            chance = random.Random(seed)
            net = crossing_net(chance, chance.random() < 0.3) if seed % 2 else chance_net(chance, 0.3)
            n = chance.choice((0, 1, 2, 3, FAR))
            whole = certificate(net, n)
            self.assertEqual(whole[0], "certificate")
            self.assertEqual([rooms_of(net, paper[1]) for paper in whole[1]], least_rooms(net, n))
            self.assertEqual([rooms_of(net, paper[1]) for paper in whole[2]], corners(net, n))
            self.assertEqual(judge(net, n, whole), ("accepted",))
            order = ("certificate", tuple(reversed(whole[1])), tuple(reversed(whole[2])))
            self.assertEqual(judge(net, n, order), ("accepted",))

    def test_form(self):
        net = crossed()
        whole = certificate(net, 3)
        for thing in strange_values() + [
            list(whole), whole[:2], whole + ((),), ("Certificate",) + whole[1:], ("certificate", list(whole[1]), whole[2]),
            ("certificate", whole[1], list(whole[2])), ("certificate", None, ()), ("certificate", (), None),
            ("certificate", whole[1] * 31, whole[2]), ("certificate", whole[1], whole[2] * 61), (Strange(),) + whole[1:],
            ("certificate", Strange(), ()), ("certificate", (), Strange()), ("certificate", (), {}),
        ]:
            self.assertEqual(judge(net, 3, thing), ("form",))

    def test_papers_that_are_not_right(self):
        net = crossed()
        _, enough, stuck = certificate(net, 3)
        for thing, verdict in [
            ((enough[:1] + (None,), stuck), ("enough", 1)), ((stuck + enough, stuck), ("enough", 0)),
            ((enough, stuck + enough), ("stuck", 1)), ((enough, (Strange(),)), ("stuck", 0)), (((5,), (6,)), ("enough", 0)),
            (((("enough", (1, 2), enough[0][2]),), stuck), ("enough", 0)), ((enough, (stuck[0][:3] + (("ann",),),)), ("stuck", 0)),
            ((enough * 30, stuck * 60), ("least", 2)),
        ]:
            self.assertEqual(judge(net, 3, ("certificate", *thing)), verdict)

    def test_cover(self):
        net = crossed()
        _, enough, stuck = certificate(net, 3)
        self.assertEqual(judge(net, 3, ("certificate", enough[1:], stuck)), ("cover", (1, 3)))
        self.assertEqual(judge(net, 3, ("certificate", enough[:1], stuck)), ("cover", (3, 1)))
        self.assertEqual(judge(net, 3, ("certificate", (), ())), ("cover", (1, 1)))
        less = stuck_paper(net, 3, Rooms({"c": 1, "d": 2}))
        self.assertEqual(judge(net, 3, ("certificate", enough, (less,))), ("cover", (2, 1)))
        # Beyond the greatest number there is only None.
        alone = Net({"ann": forever(send("c"))})
        top = certificate(alone, 0)
        self.assertEqual([top[1][0][1], top[2][0][1]], [(None,), (MOST,)])
        self.assertEqual(judge(alone, 0, top), ("accepted",))
        self.assertEqual(judge(alone, 0, ("certificate", (), top[2])), ("cover", (None,)))
        self.assertEqual(judge(alone, 0, ("certificate", top[1], ())), ("cover", (1,)))

    def test_least(self):
        net = crossed()
        _, enough, stuck = certificate(net, 3)
        more = enough_paper(net, 3, Rooms({"c": 2, "d": 3}))
        self.assertEqual(judge(net, 3, ("certificate", (more,) + enough, stuck)), ("least", 0))
        self.assertEqual(judge(net, 3, ("certificate", enough + (more,), stuck)), ("least", 2))
        self.assertEqual(judge(net, 3, ("certificate", enough + enough[:1], stuck)), ("least", 2))
        # Not least, and so beyond what the stuck papers leave: that comes first.
        self.assertEqual(judge(net, 3, ("certificate", (more, enough[1]), stuck)), ("cover", (1, 3)))

    def test_greatest(self):
        net = crossed()
        _, enough, stuck = certificate(net, 3)
        less = stuck_paper(net, 3, Rooms({"c": 1, "d": 2}))
        self.assertEqual(judge(net, 3, ("certificate", enough, stuck + stuck)), ("greatest", 1))
        self.assertEqual(judge(net, 3, ("certificate", enough, stuck + (less,))), ("greatest", 1))
        self.assertEqual(judge(net, 3, ("certificate", enough, (less,) + stuck)), ("greatest", 0))

    def test_too_many(self):
        net = Net({"ann": loop("n", send("c")) + send("d"), "bob": take("d") + loop("n", take("x")),
                   "cid": forever(take("c") + send("x"))})
        self.fails(TooMany, certificate, net, 63)
        stairs = tuple(stuck_paper(net, 70, Rooms({"c": c, "d": 1, "x": 68 - c})) for c in range(1, 61))
        self.fails(TooMany, judge, net, 70, ("certificate", (), stairs))
        whole = certificate(net, 62)
        self.assertEqual([len(whole[1]), len(whole[2])], [60, 59])
        self.assertEqual(judge(net, 62, whole), ("accepted",))

    def test_a_net_without_stores(self):
        net = Net({"ann": forever(work(1)), "bob": Row()})
        self.assertEqual(certificate(net, 0), ("certificate", (("enough", (), (("times", None, ("ann",)),)),), ()))
        self.assertEqual(judge(net, 0, certificate(net, 0)), ("accepted",))
        self.assertEqual(judge(net, 0, ("certificate", (), ())), ("cover", ()))
        ended = Net({"ann": Row()})
        self.assertEqual(judge(ended, 0, ("certificate", (("enough", (), ()),), ())), ("accepted",))


if __name__ == "__main__":
    unittest.main()

"""[19], [26] and [1]: far loops and many rooms take few runs; the answers stay what they are."""

import itertools
import unittest

from leastrooms import walks
from leastrooms.corners import corners, is_enough, least_rooms
from leastrooms.formulas import formulas, judge_lines
from leastrooms.nets import Net
from leastrooms.rooms import Rooms
from leastrooms.rows import Row, forever, loop, send, take, work
from tests.helping import Case

FAR = 10 ** 30
MANY_N = [0, 1, 2, 10, 10 ** 12, FAR]
# For a count of ann's sends and how many messages bob takes at once: period, start, for each rest the least
# rooms and the corners, and the papers.
TAKEN_AT_ONCE = {
    ("2n+1", 3): (3, 3, [
        ([{"c": "3", "d": "2m"}], [{"c": "None", "d": "2m-1"}]),
        ([{"c": "3", "d": "2m+1"}], [{"c": "None", "d": "2m"}]),
        ([{"c": "3", "d": "2m+1"}], [{"c": "None", "d": "2m"}]),
    ], [
        (6, 3, [
            "3 2m+4: 2m+4*(3*(ann) bob bob) ann",
        ], [
            "None 2m+3: 6m+12*(ann) ann bob bob 2m+2*(bob bob) bob / bob",
        ]),
        (7, 3, [
            "3 2m+5: 2m+4*(3*(ann) bob bob) 2*(ann) ann bob bob",
        ], [
            "None 2m+4: 6m+14*(ann) ann bob bob 2m+3*(bob bob) bob / bob",
        ]),
        (8, 3, [
            "3 2m+5: 2m+5*(3*(ann) bob bob) ann ann",
        ], [
            "None 2m+4: 6m+16*(ann) ann bob bob 2m+3*(bob bob) bob / bob",
        ]),
    ]),
    ("n-1", 3): (3, 7, [
        ([{"c": "3", "d": "m-1"}], [{"c": "None", "d": "m-2"}]),
        ([{"c": "3", "d": "m"}], [{"c": "None", "d": "m-1"}]),
        ([{"c": "3", "d": "m"}], [{"c": "None", "d": "m-1"}]),
    ], [
        (15, 3, [
            "3 m+4: m+4*(3*(ann) bob bob) ann ann",
        ], [
            "None m+3: 3m+13*(ann) ann bob bob m+2*(bob bob) bob / bob",
        ]),
        (13, 3, [
            "3 m+4: m+3*(3*(ann) bob bob) 2*(ann) ann bob bob",
        ], [
            "None m+3: 3m+11*(ann) ann bob bob m+2*(bob bob) bob / bob",
        ]),
        (14, 3, [
            "3 m+4: m+4*(3*(ann) bob bob) ann",
        ], [
            "None m+3: 3m+12*(ann) ann bob bob m+2*(bob bob) bob / bob",
        ]),
    ]),
    ("3n-2", 2): (2, 2, [
        ([{"c": "2", "d": "3m-1"}], [{"c": "None", "d": "3m-2"}]),
        ([{"c": "2", "d": "3m"}], [{"c": "None", "d": "3m-1"}]),
    ], [
        (4, 2, [
            "2 3m+5: 3m+4*(2*(ann) bob bob) ann ann bob bob",
        ], [
            "None 3m+4: 6m+9*(ann) ann bob bob 3m+3*(bob bob) bob / bob",
        ]),
        (5, 2, [
            "2 3m+6: 3m+6*(2*(ann) bob bob) ann",
        ], [
            "None 3m+5: 6m+12*(ann) ann bob bob 3m+4*(bob bob) bob / bob",
        ]),
    ]),
    ("n-1", 2): (2, 5, [
        ([{"c": "2", "d": "m-1"}], [{"c": "None", "d": "m-2"}]),
        ([{"c": "2", "d": "m"}], [{"c": "None", "d": "m-1"}]),
    ], [
        (10, 2, [
            "2 m+4: m+4*(2*(ann) bob bob) ann",
        ], [
            "None m+3: 2m+8*(ann) ann bob bob m+2*(bob bob) bob / bob",
        ]),
        (9, 2, [
            "2 m+4: m+3*(2*(ann) bob bob) ann ann bob bob",
        ], [
            "None m+3: 2m+7*(ann) ann bob bob m+2*(bob bob) bob / bob",
        ]),
    ]),
    ("n", 3): (3, 6, [
        ([{"c": "3", "d": "m"}], [{"c": "None", "d": "m-1"}]),
        ([{"c": "3", "d": "m"}], [{"c": "None", "d": "m-1"}]),
        ([{"c": "3", "d": "m"}], [{"c": "None", "d": "m-1"}]),
    ], [
        (12, 3, [
            "3 m+4: m+3*(3*(ann) bob bob) 2*(ann) ann bob bob",
        ], [
            "None m+3: 3m+11*(ann) ann bob bob m+2*(bob bob) bob / bob",
        ]),
        (13, 3, [
            "3 m+4: m+4*(3*(ann) bob bob) ann",
        ], [
            "None m+3: 3m+12*(ann) ann bob bob m+2*(bob bob) bob / bob",
        ]),
        (14, 3, [
            "3 m+4: m+4*(3*(ann) bob bob) ann ann",
        ], [
            "None m+3: 3m+13*(ann) ann bob bob m+2*(bob bob) bob / bob",
        ]),
    ]),
    ("n+1", 3): (3, 5, [
        ([{"c": "3", "d": "m"}], [{"c": "None", "d": "m-1"}]),
        ([{"c": "3", "d": "m"}], [{"c": "None", "d": "m-1"}]),
        ([{"c": "3", "d": "m+1"}], [{"c": "None", "d": "m"}]),
    ], [
        (12, 3, [
            "3 m+4: m+4*(3*(ann) bob bob) ann",
        ], [
            "None m+3: 3m+12*(ann) ann bob bob m+2*(bob bob) bob / bob",
        ]),
        (13, 3, [
            "3 m+4: m+4*(3*(ann) bob bob) ann ann",
        ], [
            "None m+3: 3m+13*(ann) ann bob bob m+2*(bob bob) bob / bob",
        ]),
        (11, 3, [
            "3 m+4: m+3*(3*(ann) bob bob) 2*(ann) ann bob bob",
        ], [
            "None m+3: 3m+11*(ann) ann bob bob m+2*(bob bob) bob / bob",
        ]),
    ]),
    ("n+2", 3): (3, 4, [
        ([{"c": "3", "d": "m"}], [{"c": "None", "d": "m-1"}]),
        ([{"c": "3", "d": "m+1"}], [{"c": "None", "d": "m"}]),
        ([{"c": "3", "d": "m+1"}], [{"c": "None", "d": "m"}]),
    ], [
        (12, 3, [
            "3 m+4: m+4*(3*(ann) bob bob) ann ann",
        ], [
            "None m+3: 3m+13*(ann) ann bob bob m+2*(bob bob) bob / bob",
        ]),
        (10, 3, [
            "3 m+4: m+3*(3*(ann) bob bob) 2*(ann) ann bob bob",
        ], [
            "None m+3: 3m+11*(ann) ann bob bob m+2*(bob bob) bob / bob",
        ]),
        (11, 3, [
            "3 m+4: m+4*(3*(ann) bob bob) ann",
        ], [
            "None m+3: 3m+12*(ann) ann bob bob m+2*(bob bob) bob / bob",
        ]),
    ]),
    ("2n", 3): (3, 3, [
        ([{"c": "3", "d": "2m"}], [{"c": "None", "d": "2m-1"}]),
        ([{"c": "3", "d": "2m"}], [{"c": "None", "d": "2m-1"}]),
        ([{"c": "3", "d": "2m+1"}], [{"c": "None", "d": "2m"}]),
    ], [
        (6, 3, [
            "3 2m+4: 2m+3*(3*(ann) bob bob) 2*(ann) ann bob bob",
        ], [
            "None 2m+3: 6m+11*(ann) ann bob bob 2m+2*(bob bob) bob / bob",
        ]),
        (7, 3, [
            "3 2m+4: 2m+4*(3*(ann) bob bob) ann ann",
        ], [
            "None 2m+3: 6m+13*(ann) ann bob bob 2m+2*(bob bob) bob / bob",
        ]),
        (8, 3, [
            "3 2m+5: 2m+5*(3*(ann) bob bob) ann",
        ], [
            "None 2m+4: 6m+15*(ann) ann bob bob 2m+3*(bob bob) bob / bob",
        ]),
    ]),
}
# For the counts of both loops of two processes that cross.
CROSSED = {
    ("n+2", "n-1"): (1, 3, [
        ([{"c": "1", "d": "m-1"}, {"c": "m+2", "d": "1"}], [{"c": "m+1", "d": "m-2"}]),
    ], [
        (5, 1, [
            "1 m+4: ann m+3*(bob) bob bob m+5*(ann bob) ann m+3*(ann) ann bob",
            "m+7 1: m+6*(ann) ann bob m+2*(ann bob) ann bob m+6*(bob) bob ann",
        ], [
            "m+6 m+3: m+6*(ann) m+3*(bob) / ann bob",
        ]),
    ]),
    ("2n+1", "n-1"): (1, 3, [
        ([{"c": "1", "d": "m-1"}, {"c": "2m+1", "d": "1"}], [{"c": "2m", "d": "m-2"}]),
    ], [
        (5, 1, [
            "1 m+4: ann m+3*(bob) bob bob 2m+9*(ann bob) ann m+3*(ann) ann bob",
            "2m+11 1: 2m+10*(ann) ann bob m+2*(ann bob) ann bob 2m+10*(bob) bob ann",
        ], [
            "2m+10 m+3: 2m+10*(ann) m+3*(bob) / ann bob",
        ]),
    ]),
    ("3n-2", "n-1"): (1, 3, [
        ([{"c": "1", "d": "m-1"}, {"c": "3m-2", "d": "1"}], [{"c": "3m-3", "d": "m-2"}]),
    ], [
        (5, 1, [
            "1 m+4: ann m+3*(bob) bob bob 3m+11*(ann bob) ann m+3*(ann) ann bob",
            "3m+13 1: 3m+12*(ann) ann bob m+2*(ann bob) ann bob 3m+12*(bob) bob ann",
        ], [
            "3m+12 m+3: 3m+12*(ann) m+3*(bob) / ann bob",
        ]),
    ]),
    ("n+2", "2n+1"): (1, 1, [
        ([{"c": "1", "d": "2m+1"}, {"c": "m+2", "d": "1"}], [{"c": "m+1", "d": "2m"}]),
    ], [
        (2, 1, [
            "1 2m+5: ann 2m+4*(bob) bob bob m+2*(ann bob) ann 2m+4*(ann) ann bob",
            "m+4 1: m+3*(ann) ann bob 2m+3*(ann bob) ann bob m+3*(bob) bob ann",
        ], [
            "m+3 2m+4: m+3*(ann) 2m+4*(bob) / ann bob",
        ]),
    ]),
    ("n+2", "3n-2"): (1, 2, [
        ([{"c": "1", "d": "3m-2"}, {"c": "m+2", "d": "1"}], [{"c": "m+1", "d": "3m-3"}]),
    ], [
        (2, 1, [
            "1 3m+4: ann 3m+3*(bob) bob bob m+2*(ann bob) ann 3m+3*(ann) ann bob",
            "m+4 1: m+3*(ann) ann bob 3m+2*(ann bob) ann bob m+3*(bob) bob ann",
        ], [
            "m+3 3m+3: m+3*(ann) 3m+3*(bob) / ann bob",
        ]),
    ]),
    ("2n+1", "3n-2"): (1, 2, [
        ([{"c": "1", "d": "3m-2"}, {"c": "2m+1", "d": "1"}], [{"c": "2m", "d": "3m-3"}]),
    ], [
        (2, 1, [
            "1 3m+4: ann 3m+3*(bob) bob bob 2m+3*(ann bob) ann 3m+3*(ann) ann bob",
            "2m+5 1: 2m+4*(ann) ann bob 3m+2*(ann bob) ann bob 2m+4*(bob) bob ann",
        ], [
            "2m+4 3m+3: 2m+4*(ann) 3m+3*(bob) / ann bob",
        ]),
    ]),
}


def far_rounds():
    return Net({"ann": loop(FAR - 3, loop("n", send("c")) + send("d")), "bob": loop(FAR - 3, take("d") + loop("n", take("c")))})


def far_sends():
    return Net({"ann": loop("n", send("c")) + work(5), "bob": loop(10 ** 12, take("c"))}, {"c": 3})


def crossing(*many):
    """Two processes that cross once for each pair of channels and each size from 1 on below its number."""
    ann, bob = Row(), Row()
    for (one, other), most in zip([("aa", "bb"), ("cc", "dd"), ("ee", "ff"), ("gg", "hh")], many):
        for size in range(1, most):
            ann = ann + loop(size + 1, send(one)) + loop(most + 1 - size, take(other))
            bob = bob + loop(most + 1 - size, send(other)) + loop(size + 1, take(one))
    return Net({"ann": ann, "bob": bob})


def taken_at_once(count, k):
    return Net({"ann": loop(count, send("c")), "bob": forever(take("c", k) + send("d"))})


def crossed(one, other):
    return Net({"ann": loop(one, send("c")) + loop(other, take("d")), "bob": loop(other, send("d")) + loop(one, take("c"))})


def walks_in(call):
    """How many walks a call makes, and how many moves they have."""
    made = []
    first = walks.Walk.__init__

    def counted(self, *told):
        first(self, *told)
        made.append(self.many)
    walks.Walk.__init__ = counted
    try:
        call()
    finally:
        walks.Walk.__init__ = first
    return len(made), sum(made)


def pairs(found):
    return [tuple(room for _, room in rooms.pairs()) for rooms in found]


def text_of_item(item):
    return item if isinstance(item, str) else f"{item[1]}*({' '.join(map(text_of_item, item[2]))})"


def text_of(paper):
    """A lined paper as a short text."""
    text = " ".join(str(line) for line in paper[1]) + ": " + " ".join(map(text_of_item, paper[2]))
    return text + " / " + " ".join(paper[3]) if paper[0] == "stuck" else text


class FarTest(Case):
    def test_far_rounds(self):
        net = far_rounds()
        for n in (1, 2, 10, 1000, 10 ** 12, FAR - 2, FAR):
            self.assertEqual(pairs(least_rooms(net, n)), [(n, 1)])
            self.assertEqual(pairs(corners(net, n)), [(n - 1, None)] if n > 1 else [])

    def test_a_far_loop_and_first_messages(self):
        net = far_sends()
        for n in (0, 1, 10, 10 ** 12 - 3):
            self.assertEqual([pairs(least_rooms(net, n)), corners(net, n)], [[(3,)], []])
        for n in (10 ** 12 - 2, 10 ** 12, FAR - 2, FAR):
            room = max(3, n + 3 - 10 ** 12)
            self.assertEqual(pairs(least_rooms(net, n)), [(room,)])
            self.assertEqual(pairs(corners(net, n)), [(room - 1,)] if room > 3 else [])
            self.assertTrue(is_enough(net, n, Rooms({"c": room})))

    def test_no_more_runs_for_farther_loops(self):
        for net in (far_rounds(), far_sends()):
            for call in (least_rooms, corners):
                many, moves = walks_in(lambda: call(net, FAR - 2))
                self.assertLessEqual(many, 12)
                self.assertLessEqual(moves, 120)


class ManyRoomsTest(Case):
    def look_at(self, many):
        net = crossing(*many)
        choices = [[(size, most + 1 - size) for size in range(1, most + 1)] for most in many]
        expected = sorted(tuple(itertools.chain(*chosen)) for chosen in itertools.product(*choices))
        short = []
        for at, most in enumerate(many):
            for size in range(1, most):
                around = [None] * 2 * len(many)
                around[2 * at:2 * at + 2] = [size, most - size]
                short.append(tuple(around))
        short = sorted(short, key=lambda told: [10 ** 300 if room is None else room for room in told])
        for n in (0, 5, FAR):
            self.assertEqual(pairs(least_rooms(net, n)), expected)
            self.assertEqual(pairs(corners(net, n)), short)
        return net

    def test_all_choices_and_one_corner_for_each_crossing(self):
        net = self.look_at((3, 4, 5))
        self.assertEqual([len(least_rooms(net, 0)), len(corners(net, 0))], [60, 9])
        for many in [(2, 2, 3, 5), (9,), (6, 10), (2, 3, 5), (2, 2), (7,)]:
            self.look_at(many)

    def test_runs_grow_with_the_crossings_and_not_with_the_choices(self):
        for many in [(3, 4, 5), (2, 2, 3, 5), (9,), (6, 10)]:
            net = crossing(*many)
            made, moves = walks_in(lambda: least_rooms(net, 0))
            crossings = sum(most - 1 for most in many)
            self.assertLessEqual(made, 9 * crossings)
            self.assertLessEqual(moves, 90 * crossings)


class FormulasTest(Case):
    def look_at(self, net, told):
        period, start, rooms, papers = told
        found = formulas(net)
        self.assertEqual([found.period, found.start], [period, start])
        for rest, (least, short) in enumerate(rooms):
            self.assertEqual([{store: str(line) for store, line in one.items()} for one in found.least_lines(rest)], least)
            self.assertEqual([{store: str(line) for store, line in one.items()} for one in found.corner_lines(rest)], short)
        self.assertEqual([(first, step, list(map(text_of, enough)), list(map(text_of, stuck)))
                          for first, step, enough, stuck in found.papers()], papers)
        for one in found.papers():
            self.assertEqual(judge_lines(net, one), ("accepted",))
        for n in MANY_N:
            self.assertEqual(found.least_at(n), least_rooms(net, n))
            self.assertEqual(found.corners_at(n), corners(net, n))

    def test_several_messages_taken_at_once(self):
        for (count, k), told in TAKEN_AT_ONCE.items():
            with self.subTest(count=count, k=k):
                self.look_at(taken_at_once(count, k), told)

    def test_processes_that_cross(self):
        for (one, other), told in CROSSED.items():
            with self.subTest(one=one, other=other):
                self.look_at(crossed(one, other), told)

    def test_few_runs(self):
        for (count, k) in TAKEN_AT_ONCE:
            self.assertLessEqual(walks_in(lambda: formulas(taken_at_once(count, k)))[0], 80)
        for (one, other) in CROSSED:
            self.assertLessEqual(walks_in(lambda: formulas(crossed(one, other)))[0], 40)


if __name__ == "__main__":
    unittest.main()

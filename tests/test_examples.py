"""All examples of the document, each behind the point that it stands behind."""

import doctest
import unittest

EXAMPLES = {
    "7": r"""
>>> from leastrooms.rows import loop, send, take
>>> row = send("c", 2) + loop("2n+1", take("d")) * 3
>>> [str(row), row.size, row.parts[1][:2]]
['send c 2; loop 3 (loop 2n+1 (take d))', 4, ('loop', (0, 3))]
""",
    "11": r"""
>>> from leastrooms.moments import begin
>>> from leastrooms.nets import Net
>>> from leastrooms.rooms import Rooms
>>> from leastrooms.rows import loop, send, take
>>> net = Net({"ann": loop("n", send("c")) + send("d"), "bob": take("d") + loop("n", take("c"))})
>>> start = begin(net, 3, Rooms({"c": 2, "d": 1}))
>>> now = start >> "ann" >> "ann"
>>> [net.stores, net.least_room("c"), now.level("c"), now.place("ann"), now.wait("ann"), now.wait("bob"), now.can()]
[('c', 'd'), 1, 2, (0, 2, 0), ('full', 'c'), ('empty', 'd'), []]
""",
    "13": r"""
>>> from leastrooms.ends import corner_of, end_of, knots, lost
>>> from leastrooms.moments import begin
>>> from leastrooms.nets import Net
>>> from leastrooms.rooms import Rooms
>>> from leastrooms.rows import loop, send, take
>>> net = Net({"ann": loop("n", send("c")) + send("d"), "bob": take("d") + loop("n", take("c")), "cid": take("x")})
>>> now = begin(net, 3, Rooms({"c": 2, "d": 1, "x": 1})) >> "ann" >> "ann"
>>> first = [knots(now), lost(now), corner_of(now, ["ann", "bob"])]
>>> after = end_of(begin(Net({"ann": send("c") * 3, "bob": take("c")}), 0, Rooms({"c": 1})))
>>> [first, [knots(after), lost(after), corner_of(after, ["ann"])]]
[[[['ann', 'bob']], ['cid'], {'c': 2}], [[['ann']], ['bob'], {'c': 1}]]
""",
    "15": r"""
>>> from leastrooms.courses import Course, follow
>>> from leastrooms.moments import begin
>>> from leastrooms.nets import Net
>>> from leastrooms.rooms import Rooms
>>> from leastrooms.rows import send, take
>>> net = Net({"ann": send("c") * 10 ** 30, "bob": take("c") * 10 ** 30})
>>> course = Course(["ann", "bob"]) * (10 ** 30 - 1) + Course(["ann", "bob"])
>>> last = follow(begin(net, 0, Rooms({"c": 1})), course)
>>> [course.total_steps, last.place("ann"), last.level("c")]
[2000000000000000000000000000000, (), 0]
""",
    "18": r"""
>>> from leastrooms.nets import Net
>>> from leastrooms.rooms import Rooms
>>> from leastrooms.rows import loop, send, take
>>> from leastrooms.runs import run
>>> net = Net({"ann": loop("n", send("c")) + send("d"), "bob": take("d") + loop("n", take("c"))})
>>> far = run(net, 10 ** 30, Rooms({"c": 10 ** 29, "d": 1}))
>>> [far.is_enough, far.moment.level("c") == 10 ** 29, far.knots, far.state("bob")]
[False, True, [['ann', 'bob']], 'empty']
""",
    "21": r"""
>>> from leastrooms.corners import corners, least_rooms, why_not
>>> from leastrooms.nets import Net
>>> from leastrooms.rooms import Rooms
>>> from leastrooms.rows import loop, send, take
>>> net = Net({"ann": loop("n", send("c")) + loop("n", take("d")), "bob": loop("n", send("d")) + loop("n", take("c"))})
>>> first = [rooms.pairs() for rooms in least_rooms(net, 10 ** 30)] == [[("c", 1), ("d", 10 ** 30)], [("c", 10 ** 30), ("d", 1)]]
>>> second = [rooms.pairs() for rooms in corners(net, 5)]
>>> [first, second, why_not(net, 5, Rooms({"c": 2, "d": 4})).pairs(), why_not(net, 5, Rooms({"c": 1, "d": 5}))]
[True, [[('c', 4), ('d', 4)]], [('c', 4), ('d', 4)], None]
""",
    "23": r"""
>>> from leastrooms.nets import Net
>>> from leastrooms.papers import certificate, is_enough_paper, judge, stuck_paper, waits_in
>>> from leastrooms.rooms import Rooms
>>> from leastrooms.rows import loop, send, take
>>> net = Net({"ann": loop("n", send("c")) + send("d"), "bob": take("d") + loop("n", take("c"))})
>>> paper = stuck_paper(net, 5, Rooms({"c": 4, "d": None}))
>>> waits = list(waits_in(net, 5, paper))
>>> whole = certificate(net, 5)
>>> second = [judge(net, 5, whole), judge(net, 5, ("certificate", whole[1], ())), judge(net, 6, whole)]
>>> third = [is_enough_paper(net, 2, ("enough", (2, 1), ("ann", "ann", "ann", "bob", "bob", "bob"))), is_enough_paper(net, 2, ("enough", (2, 1), ("ann", "ann")))]
>>> [paper[:2], waits, second, third]
[('stuck', (4, None)), [('ann', 'full', 'c', ('bob',)), ('bob', 'empty', 'd', ('ann',))], [('accepted',), ('cover', (1, 1)), ('enough', 0)], [True, False]]
""",
    "26": r"""
>>> from leastrooms.formulas import formulas
>>> from leastrooms.lines import Line
>>> from leastrooms.nets import Net
>>> from leastrooms.rows import loop, send, take
>>> net = Net({"ann": loop("2n+1", send("c")) + send("d"), "bob": take("d") + loop("2n+1", take("c"))})
>>> found = formulas(net)
>>> first = [found.period, found.start, [str(one["c"]) for one in found.least_lines(0)], [str(one["c"]) for one in found.corner_lines(0)]]
>>> [first, found.least_at(10 ** 30)[0].pairs() == [("c", 2 * 10 ** 30 + 1), ("d", 1)], (Line(3, 2) * 2 - 1)(10), str(Line.through(1, 5, 3, 1))]
[[1, 1, ['2m+1'], ['2m']], True, 45, '-2m+7']
""",
    "29": r"""
>>> from leastrooms.growing import Cheap, Policy, grow, regrets
>>> from leastrooms.nets import Net
>>> from leastrooms.rooms import least_possible
>>> from leastrooms.rows import loop, send, take
>>> forced = Net({"ann": loop("n", send("c") + send("d")) + send("e"), "bob": take("e") + loop("n", take("c") + take("d"))})
>>> far = grow(forced, 10 ** 30, least_possible(forced), Policy())
>>> first = [far.rooms.total == 2 * 10 ** 30 + 1, far.many == 2 * 10 ** 30 - 2, far.is_forced]
>>> net = Net({"ann": loop(5, send("c")) + loop(3, take("d")), "bob": loop(3, send("d")) + loop(5, take("c"))})
>>> some = [grow(net, 0, least_possible(net), policy) for policy in (Policy(), Cheap({"c": 2, "d": 1}))]
>>> [first, [[one.rooms.pairs(), one.many, one.is_forced] for one in some], regrets(net, 0, {"c": 1, "d": 1})]
[[True, True, True], [[[('c', 5), ('d', 1)], 4, False], [[('c', 1), ('d', 3)], 2, False]], [('first', 2), ('narrow', 2), ('wide', 2), ('cheap', 2)]]
""",
    "32": r"""
>>> from leastrooms.beats import Beats, pace_paper, is_pace_paper, rounds_in
>>> from leastrooms.nets import Net
>>> from leastrooms.rooms import Rooms
>>> from leastrooms.rows import forever, send, take, work
>>> net = Net({"ann": forever(work(3) + send("c")), "bob": forever(take("c") + work(4))})
>>> small, wide = Beats(net, Rooms({"c": 1})), Beats(net, Rooms({"c": 2}))
>>> [small.waits, small.begins(3), small.pace, wide.waits[3], is_pace_paper(small, pace_paper(small))]
[[(0, 1, 0), (1, 0, 1), (1, 2, 0), (2, 1, 1), (2, 3, 0), (3, 2, 1)], [[0, 3, 4, 5], [4, 7, 9, 10], [8, 11, 14, 15]], (5, 1), (2, 1, 2), True]
""",
    "33": r"""
>>> from leastrooms.nets import Net
>>> from leastrooms.rows import forever, send, take, work
>>> from leastrooms.trades import fastest, trades
>>> net = Net({"ann": forever(send("c") + send("c") + work(9)), "bob": forever(take("c") + work(4))})
>>> [fastest(net), [(pace, rooms.pairs()) for pace, rooms in trades(net)]]
[(11, 1), [((12, 1), [('c', 1)]), ((11, 1), [('c', 2)])]]
""",
    "35": r"""
>>> from leastrooms.changes import Draft, cut, fates_after
>>> from leastrooms.corners import least_rooms
>>> from leastrooms.nets import Net
>>> from leastrooms.rooms import Rooms
>>> from leastrooms.rows import loop, send, take, work
>>> net = Net({"ann": loop("n", send("c")) + send("d"), "bob": take("d") + loop("n", take("c"))})
>>> new = (Draft(net) >> ("relay", "c", "cid", "x")).net
>>> first = [[room for store, room in rooms.pairs()] for rooms in least_rooms(new, 5)]
>>> second = fates_after(net, 5, Rooms({"c": 4, "d": 1}), "bob", 0)
>>> [first, second, str(cut(loop(10 ** 30, send("c") + work(2)), 0, 7))]
[[[1, 1, 3], [2, 1, 2], [3, 1, 1]], {'ann': 'stuck', 'bob': 'ended'}, 'loop 3 (send c; work 2); send c']
""",
    "38": r"""
>>> from leastrooms.engine import Engine, judge_record, tried
>>> from leastrooms.journals import read_journal, recover, write_journal
>>> from leastrooms.nets import Net
>>> from leastrooms.rooms import Rooms
>>> from leastrooms.rows import send, take, work
>>> net = Net({"ann": send("c", 2) + work(5), "bob": take("c")}, {"c": 1})
>>> engine = Engine(net, 0, Rooms({"c": 3}), {"ann": 4})
>>> entries = tried(engine, ["bob", "ann"])
>>> first = [entries, engine.stream("c"), engine.waiting("c"), engine.held("ann"), engine.play(), engine.log[2]]
>>> text = write_journal([("bob", "take", "c", (1,))])
>>> [first, text, recover(text + "ann"), judge_record(Engine(net, 0, Rooms({"c": 3})), entries)]
[[[('bob', 'take', 'c', (1,)), ('ann', 'send', 'c', (4, 125))], [1, 4, 125], [4, 125], 3876, 1, ('ann', 'work', 5, ())], 'bob take c 1 5388\n', [('bob', 'take', 'c', (1,))], (1, 'other')]
""",
    "41": r"""
>>> from leastrooms.console import Console
>>> console = Console()
>>> first = [console.run(line) for line in ["process ann: loop n (send c); send d", "process bob: take d; loop n (take c)", "number 5", "least", "corners"]]
>>> second = [console.run(line) for line in ["enough", "room c 5", "enough", "step bob", "step ann", "levels", "ends"]]
>>> [first, second]
[['ok', 'ok', 'ok', 'c=5 d=1', 'c=4 d=-'], ['no c=4 d=-', 'ok', 'yes', 'empty d', 'ok', 'c 1, d 0', 'ann ended, bob ended']]
""",
}


class ExamplesTest(unittest.TestCase):
    def test_each(self):
        for label, text in EXAMPLES.items():
            with self.subTest(point=label):
                example = doctest.DocTestParser().get_doctest(text, {}, label, label, 0)
                runner = doctest.DocTestRunner()
                runner.run(example)
                self.assertEqual(runner.summarize().failed, 0)
                self.assertGreater(len(example.examples), 1)


if __name__ == "__main__":
    unittest.main()

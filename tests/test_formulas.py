"""[26] and [4] (f): formulas tell the least rooms and the corners for all n, and their papers show it."""

import random
import unittest

from leastrooms.corners import corners, least_rooms
from leastrooms.covers import is_covered
from leastrooms.errors import BadNet, BadNumber, NotStraight, TooLong, TooMany
from leastrooms.formulas import formulas, judge_lines
from leastrooms.lines import Line, is_lined, paper_at
from leastrooms.nets import Net
from leastrooms.papers import is_enough_paper, is_stuck_paper, rooms_of
from leastrooms.rooms import Rooms
from leastrooms.rows import Row, forever, loop, send, take, work
from leastrooms.straight import numbers_at
from leastrooms.vectors import greatest_short, is_nowhere_greater, least_beyond
from tests.helping import Case, Strange, bending_net, chance_net, chances, crossing_net, strange_values, thick_net

FAR = 10 ** 30


def meeting():
    return Net({"ann": loop("2n+1", send("c")) + send("d"), "bob": take("d") + loop("2n+1", take("c"))})


def crossed():
    return Net({"ann": loop("n", send("c")) + loop("n", take("d")), "bob": loop("n", send("d")) + loop("n", take("c"))})


def packed(k):
    """Of n messages always k become one: the store b must have room for a k-th of n."""
    return Net({"ann": loop("n", send("a")), "bob": loop("n", take("a", k) + send("b"))})


def told(lines):
    return [{store: line if line is None else str(line) for store, line in one.items()} for one in lines]


class FormulasTest(Case):
    def test_the_example(self):
        found = formulas(meeting())
        self.assertEqual([found.period, found.start, told(found.least_lines(0)), told(found.corner_lines(0))],
                         [1, 1, [{"c": "2m+1", "d": "1"}], [{"c": "2m", "d": None}]])
        self.assertEqual(found.least_at(FAR), [Rooms({"c": 2 * FAR + 1, "d": 1})])
        self.assertEqual(found.corners_at(FAR), [Rooms({"c": 2 * FAR, "d": None})])

    def test_several_least_rooms(self):
        found = formulas(crossed())
        self.assertEqual([found.period, found.start], [1, 2])
        self.assertEqual(told(found.least_lines(0)), [{"c": "1", "d": "m"}, {"c": "m", "d": "1"}])
        self.assertEqual(told(found.corner_lines(0)), [{"c": "m-1", "d": "m-1"}])

    def test_periods(self):
        for k, period, start in [(1, 1, 2), (2, 2, 4), (3, 3, 6), (4, 4, 8)]:
            found = formulas(packed(k))
            self.assertEqual([found.period, found.start], [period, start])
            for rest in range(period):
                self.assertEqual(told(found.least_lines(rest)), [{"a": str(k), "b": "m"}])
                self.assertEqual(told(found.corner_lines(rest)), [{"a": None, "b": "m-1"}])
            self.look_at(packed(k), found)
            self.assertEqual([first % step for first, step, _, _ in found.papers()], list(range(period)))

    def test_no_lines(self):
        for net in [packed(5), packed(9), Net({"ann": loop("n", loop("n", send("c")))}),
                    Net({"ann": loop("n-25", send("c"))}), Net({"ann": loop((1, 5 - FAR), send("c"))}),
                    Net({"ann": packed(2).row("ann"), "bob": packed(2).row("bob"), "cid": loop("n", send("d")),
                         "dan": loop("n", take("d", 3) + send("e"))})]:
            self.assertEqual(self.fails(NotStraight, formulas, net).args, ())

    def test_more_and_more_least_rooms(self):
        net = Net({"ann": loop("n", send("c")) + send("d"), "bob": take("d") + loop("n", take("x")),
                   "cid": forever(take("c") + send("x"))})
        with self.assertRaises((NotStraight, TooMany)):
            formulas(net)
        ann, bob = Row(), Row()
        for one, other in zip("abcdef", "ghijkl"):
            ann = ann + loop(2, send(one)) + loop(3, take(other))
            bob = bob + loop(3, send(other)) + loop(2, take(one))
        self.fails(TooMany, formulas, Net({"ann": ann, "bob": bob}))

    def test_a_start_above_0(self):
        found = formulas(Net({"ann": loop("n-7", send("c"))}))
        self.assertEqual([found.period, found.start], [1, 9])
        self.assertEqual([told(found.least_lines(0)), told(found.corner_lines(0))], [[{"c": "m-7"}], [{"c": "m-8"}]])
        self.assertEqual([found.least_at(8)[0]["c"], found.corners_at(8), found.least_at(9)[0]["c"], found.corners_at(9)[0]["c"]],
                         [1, [], 2, 1])
        self.look_at(Net({"ann": loop("n-7", send("c"))}), found)

    def test_rooms_that_become_less(self):
        # bob takes n of 20 messages ahead of d: up to n = 19 the lines that seem to go on lead below 0.
        net = Net({"ann": loop(20, send("c")) + send("d"), "bob": loop("n", take("c")) + take("d") + loop(20, take("c"))})
        found = formulas(net)
        self.assertEqual([found.period, found.start, told(found.least_lines(0))], [1, 19, [{"c": "1", "d": "1"}]])
        self.assertEqual([found.least_at(n)[0]["c"] for n in (0, 1, 18, 19, FAR)], [20, 19, 2, 1, 1])
        self.look_at(net, found)
        further = Net({"ann": loop(90, send("c")) + send("d"), "bob": loop("n", take("c")) + take("d") + loop(90, take("c"))})
        self.fails(NotStraight, formulas, further)

    def test_rooms_that_are_always_the_same(self):
        for net in [Net({"ann": Row()}), Net({"ann": forever(work(1)), "bob": loop("n", work(2))}),
                    Net({"ann": loop("n", send("c", 2)), "bob": loop("2n", take("c"))})]:
            found = formulas(net)
            self.assertEqual([found.period, found.start, found.corner_lines(0)], [1, 0, []])
            self.look_at(net, found)
        endless = formulas(Net({"ann": forever(send("c"))}))
        self.assertEqual([told(endless.least_lines(0)), told(endless.corner_lines(0))], [[{"c": None}], [{"c": str(10 ** 200)}]])
        self.assertEqual(endless.least_lines(0)[0]["c"], None)

    def test_numbers_that_could_go_on_in_several_ways(self):
        # All of the same sum at each n: near n alone do not tell which of them go on as which.
        net = Net({"ann": loop(9, send("c")) + send("d"), "bob": take("d") + loop(9, take("x")),
                   "cid": forever(take("c") + send("x"))})
        found = formulas(net)
        self.assertEqual([found.period, found.start, len(found.least_lines(0)), len(found.corner_lines(0))], [1, 0, 7, 6])
        self.assertEqual(told(found.least_lines(0)), [{"c": str(c), "d": "1", "x": str(8 - c)} for c in range(1, 8)])
        self.look_at(net, found)

    def test_the_order_of_the_lines(self):
        net = Net({"ann": loop("3n-4", send("c")) + loop(20, take("d")), "bob": loop(20, send("d")) + loop("3n-4", take("c"))})
        found = formulas(net)
        self.assertEqual(told(found.least_lines(0)), [{"c": "1", "d": "20"}, {"c": "3m-4", "d": "1"}])
        turned = Net({"ann": loop(20, send("c")) + loop("3n-4", take("d")), "bob": loop("3n-4", send("d")) + loop(20, take("c"))})
        self.assertEqual(told(formulas(turned).least_lines(0)), [{"c": "1", "d": "3m-4"}, {"c": "20", "d": "1"}])
        # At small n their rooms stand in the other order, and so least_at tells them.
        mixed = Net({"ann": loop("n", send("c")) + loop(9, take("d")) + loop(30, send("e")) + loop("n", take("f")),
                     "bob": loop(9, send("d")) + loop("n", take("c")) + loop("n", send("f")) + loop(30, take("e"))})
        found = formulas(mixed)
        for n in (found.start, found.start + 5, 29, 30, 31, FAR):
            self.assertEqual(found.least_at(n), least_rooms(mixed, n))

    def look_at(self, net, found, far=(10 ** 15, FAR - 1, FAR)):
        """What holds of all Formulas."""
        self.assertTrue(1 <= found.period <= 4 and 0 <= found.start <= 24)
        for n in list(range(34)) + list(far):
            try:
                least, most = least_rooms(net, n), corners(net, n)
            except TooLong:
                continue
            self.assertEqual(found.least_at(n), least)
            self.assertEqual(found.corners_at(n), most)
            m, rest = divmod(n, found.period)
            told_all = [self.rooms(found.least_lines(rest), m) == self.sorted(least),
                        self.rooms(found.corner_lines(rest), m) == self.sorted(most)]
            if n >= found.start:
                self.assertEqual(told_all, [True, True])
            if n == found.start - 1:
                self.assertIn(False, told_all)
        self.look_at_papers(net, found)

    def rooms(self, lines, m):
        values = [[None if line is None else line(m) for store, line in sorted(one.items())] for one in lines]
        return sorted(values, key=lambda one: [(room is None, room or 0) for room in one])

    def sorted(self, rooms):
        values = [[room for _, room in one.pairs()] for one in rooms]
        return sorted(values, key=lambda one: [(room is None, room or 0) for room in one])

    def look_at_papers(self, net, found):
        papers = found.papers()
        self.assertEqual([step for _, step, _, _ in papers], [len(papers)] * len(papers))
        self.assertEqual([first % step for first, step, _, _ in papers], list(range(len(papers))))
        for told_by in papers:
            self.assertEqual(judge_lines(net, told_by), ("accepted",))
            first, step, enough, stuck = told_by
            for m in (0, 1, 5, (FAR - first) // step):
                n = first + step * m
                self.assertEqual(sorted_rooms(rooms_of(net, paper_at(paper, m)[1]) for paper in enough), found.least_at(n))
                self.assertEqual(sorted_rooms(rooms_of(net, paper_at(paper, m)[1]) for paper in stuck), found.corners_at(n))
                self.assertTrue(all(is_enough_paper(net, n, paper_at(paper, m)) for paper in enough))
                self.assertTrue(all(is_stuck_paper(net, n, paper_at(paper, m)) for paper in stuck))
            self.assertTrue(all(is_lined(net, first, step, paper) for paper in enough + stuck))

    def test_nets_by_chance(self):
        straight = 0
        for chance in chances(80, 91):
            net = chance.choice((lambda one: crossing_net(one, one.random() < 0.3), thick_net, bending_net, chance_net))(chance)
            try:
                found = formulas(net)
            except (NotStraight, TooLong):
                continue
            straight += 1
            self.look_at(net, found, (10 ** 15, FAR))
        self.assertGreater(straight, 40)

    def test_each_list_is_new(self):
        found = formulas(crossed())
        for call in [lambda: found.least_lines(0), lambda: found.corner_lines(0), lambda: found.least_at(5),
                     lambda: found.corners_at(1), lambda: found.papers()]:
            first = call()
            before = len(first)
            first.append(None)
            self.assertEqual(len(call()), before)
        found.least_lines(0)[0]["c"] = None
        self.assertEqual(str(found.least_lines(0)[0]["c"]), "1")

    def test_wrong_arguments(self):
        self.keeps_all(BadNet, strange_values(), formulas)
        one, three = formulas(crossed()), formulas(packed(3))
        for found, wrong in [(one, [1, -1]), (three, [3, -1])]:
            for call in [found.least_lines, found.corner_lines]:
                self.keeps_all(BadNumber, strange_values() + wrong, call)
            for call in [found.least_at, found.corners_at]:
                self.keeps_all(BadNumber, strange_values() + [FAR + 1], call)


def sorted_rooms(rooms):
    return sorted(rooms, key=lambda one: [(room is None, room or 0) for _, room in one.pairs()])


class JudgeLinesTest(Case):
    def setUp(self):
        self.net = crossed()
        self.whole = formulas(self.net).papers()[0]

    def test_accepted(self):
        first, step, enough, stuck = self.whole
        self.assertEqual(judge_lines(self.net, self.whole), ("accepted",))
        self.assertEqual(judge_lines(self.net, (first, step, enough[::-1], stuck[::-1])), ("accepted",))
        none = Net({"ann": Row()})
        self.assertEqual(judge_lines(none, (0, 1, (("enough", (), ()),), ())), ("accepted",))
        self.assertEqual(judge_lines(none, (FAR, 9, (("enough", (), ()),), ())), ("accepted",))

    def test_form(self):
        first, step, enough, stuck = self.whole
        for thing in strange_values() + [
            list(self.whole), self.whole[:3], self.whole + ((),), (-1, step, enough, stuck), (FAR + 1, step, enough, stuck),
            (True, step, enough, stuck), (first, 0, enough, stuck), (first, 10, enough, stuck), (first, True, enough, stuck),
            (first, 1.0, enough, stuck), (None, step, enough, stuck), (Strange(), step, enough, stuck),
            (first, Strange(), enough, stuck), (first, step, list(enough), stuck), (first, step, enough, list(stuck)),
            (first, step, enough * 31, stuck), (first, step, enough, stuck * 61), (first, step, None, stuck),
            (first, step, enough, Strange()),
        ]:
            self.assertEqual(judge_lines(self.net, thing), ("form",))

    def test_papers_that_are_not_right(self):
        first, step, enough, stuck = self.whole
        for thing, verdict in [
            ((first, step, enough + stuck, stuck), ("enough", 2)), ((first, step, stuck + enough, stuck), ("enough", 0)),
            ((first, step, enough, stuck + enough), ("stuck", 1)), ((first, step, (None,), (None,)), ("enough", 0)),
            ((first, step, enough, (Strange(),)), ("stuck", 0)), ((first + 1, step, enough, stuck), ("enough", 0)),
            ((first, step + 1, enough, stuck), ("enough", 0)), ((0, 1, enough, stuck), ("enough", 0)),
            ((first, step, (paper_at(enough[0], 0),), stuck), ("enough", 0)),
            ((first, step, (enough[0][:1] + ((Line(1), Line(1)),) + enough[0][2:],), ()), ("enough", 0)),
        ]:
            self.assertEqual(judge_lines(self.net, thing), verdict)

    def test_cover(self):
        first, step, enough, stuck = self.whole
        more = ("enough", (enough[0][1][0], enough[0][1][1] + 1), enough[0][2])
        self.assertTrue(is_lined(self.net, first, step, more))
        for thing in [(enough[:1], stuck), (enough[1:], stuck), (enough, ()), ((), stuck), ((), ()), (enough * 2, stuck),
                      (enough, stuck * 2), (enough + (more,), stuck), ((more, enough[1]), stuck), (enough + enough[:1], stuck)]:
            self.assertEqual(judge_lines(self.net, (first, step) + thing), ("cover",))

    def test_lesser_stuck_papers(self):
        net = meeting()
        first, step, enough, stuck = formulas(net).papers()[0]
        items = stuck[0][2]
        line = items[0][1]
        less = ("stuck", (line - 1, None), (("times", line - 1, items[0][2]),) + items[1:], ("ann", "bob"))
        self.assertTrue(is_lined(net, first, step, less))
        for some in [(less,), stuck + (less,), (less,) + stuck]:
            self.assertEqual(judge_lines(net, (first, step, enough, some)), ("cover",))
        self.assertEqual(judge_lines(net, (first, step, enough, stuck)), ("accepted",))

    def test_papers_for_a_part_of_all_n(self):
        # From n = 9 on lines tell all; ahead of it the least possible room is enough.
        net = Net({"ann": loop("n-7", send("c"))})
        enough = ("enough", (Line(3, 1),), (("times", Line(2, 1), ("ann",)), "ann"))
        stuck = ("stuck", (Line(2, 1),), (("times", Line(2, 1), ("ann",)),), ("ann",))
        self.assertEqual(judge_lines(net, (10, 1, (enough,), (stuck,))), ("accepted",))
        self.assertEqual(judge_lines(net, (9, 1, (enough,), (stuck,))), ("enough", 0))
        self.assertEqual(judge_lines(net, (9, 1, (), (stuck,))), ("stuck", 0))
        last = ("enough", (Line(FAR - 7),), (("times", Line(FAR - 8), ("ann",)), "ann"))
        self.assertEqual(judge_lines(net, (FAR, 1, (last,), ())), ("cover",))

    def test_wrong_arguments(self):
        self.keeps_all(BadNet, strange_values(), lambda thing: judge_lines(thing, None))


class CoverTest(unittest.TestCase):
    """Whether lines cover all, against looking at each m."""

    def at_each(self, floor, last, enough, stuck):
        for m in range(last + 1):
            one = [numbers_at(vector, m) for vector in enough]
            other = [numbers_at(vector, m) for vector in stuck]
            if sorted(one) != least_beyond(other, floor, 1000) or sorted(other) != greatest_short(one, floor, 1000):
                return False
            if any(is_nowhere_greater(number, further) for at, number in enumerate(other) for further in other[:at]):
                return False
        return True

    def test_lines_by_chance(self):
        counted = {True: 0, False: 0, "later": 0}
        for seed in range(4000):
            chance = random.Random(seed)
            last = chance.randint(0, 9)
            floor = (1,) * chance.randint(1, 3)
            stuck = [tuple(self.line(chance) for _ in floor) for _ in range(chance.randint(0, 3))]
            if any(line is not None and (line(0) < 1 or line(last) < 1) for vector in stuck for line in vector):
                continue
            # What covers at one m, as lines that perhaps cover at all others.
            base = chance.choice((0, 0, last, last // 2))
            enough = [tuple(self.line_of(stuck, at, number, base) for at, number in enumerate(numbers))
                      for numbers in least_beyond([numbers_at(vector, base) for vector in stuck], floor, 100)]
            answer = self.at_each(floor, last, enough, stuck)
            self.assertEqual(is_covered(floor, last, enough, stuck), answer, seed)
            counted[answer] += 1
            counted["later"] += not answer and self.at_each(floor, 0, enough, stuck)
        self.assertGreater(min(counted.values()), 50)

    def line_of(self, stuck, at, number, m):
        """The line of a store that is this number at m, if it tells what one more than a stuck number is."""
        lines = [one[at] + 1 for one in stuck if one[at] is not None and one[at](m) + 1 == number]
        if number == 1 or not lines:
            return Line(number) if number <= 10 ** 200 else None
        return lines[0]

    def test_right_at_both_ends_and_wrong_between(self):
        stuck = [(Line(5, 1), Line(20, -1)), (Line(15, -1), Line(10, 1))]
        enough = [(Line(1), Line(21)), (Line(6), Line(11)), (Line(16), Line(1))]
        for last, answer in [(0, True), (1, False), (10, False), (11, False)]:
            self.assertEqual(self.at_each((1, 1), last, enough, stuck), answer)
            self.assertEqual(is_covered((1, 1), last, enough, stuck), answer)

    def test_far_crossings(self):
        # The falling number becomes as small as the one that stays, at just one m or between two of them.
        for stays in (FAR, FAR + 1, FAR + 2, FAR // 7):
            for slope in (1, 2, 3):
                falling = Line(4 * FAR, -slope)
                stuck = [(Line(stays), Line(2, 1)), (falling, Line(1))]
                enough = [(Line(1), Line(3, 1)), (Line(stays + 1), Line(2)), (falling + 1, Line(1))]
                crossing = -((stays - 4 * FAR) // slope)
                self.assertTrue(falling.at_zero - slope * crossing <= stays < falling.at_zero - slope * (crossing - 1))
                self.assertTrue(is_covered((1, 1), crossing - 1, enough, stuck))
                self.assertFalse(is_covered((1, 1), crossing, enough, stuck))
                self.assertFalse(is_covered((1, 1), crossing + 10, enough, stuck))

    def line(self, chance):
        return None if chance.random() < 0.2 else Line(chance.randint(1, 9), chance.choice((0, 0, 1, 2, -1)))


if __name__ == "__main__":
    unittest.main()

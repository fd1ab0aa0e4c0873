"""[24], [25]: lines, papers with lines in the place of numbers, and at which n they are right."""

import random
import unittest

from leastrooms.errors import BadLine, BadNet, BadNumber, BadPaper
from leastrooms.lines import Line, is_lined, paper_at
from leastrooms.moments import begin
from leastrooms.nets import Net
from leastrooms.papers import is_enough_paper, is_stuck_paper
from leastrooms.rooms import least_possible
from leastrooms.rows import Row, forever, loop, send, take, work
from leastrooms.spans import ends_of_spans
from tests.helping import Case, Strange, chance_net, chances, strange_values

MOST = 10 ** 400
FAR = 10 ** 30
NO_INTEGERS = [True, False, None, 1.0, "1", (1,), [1], b"1", Strange(), object()]


def times(line, *items):
    return ("times", line, tuple(items))


class LineTest(Case):
    def test_ordinary(self):
        for at_zero, slope, m, value in [(3, 2, 0, 3), (3, 2, 10, 23), (-5, -1, FAR, -5 - FAR), (0, 0, 7, 0),
                                         (MOST, -MOST, 1, 0), (-MOST, MOST, FAR, MOST * FAR - MOST)]:
            line = Line(at_zero, slope)
            self.assertEqual([line.at_zero, line.slope, line(m)], [at_zero, slope, value])
        self.assertEqual([Line(7).slope, Line(at_zero=1, slope=2)(m=3)], [0, 7])

    def test_numbers_that_make_none(self):
        for wrong in NO_INTEGERS + [MOST + 1, -MOST - 1, 10 ** 5000]:
            self.keeps(BadLine, wrong, Line, wrong)
            self.keeps(BadLine, wrong, Line, wrong, None)
            self.keeps(BadLine, wrong, Line, 5, wrong)
            self.keeps(BadLine, wrong, Line, MOST, wrong)

    def test_wrong_m(self):
        line = Line(1, 2)
        self.keeps_all(BadNumber, NO_INTEGERS + [-1, FAR + 1, line] + strange_values(), line)
        self.assertEqual([line(0), line(FAR)], [1, 2 * FAR + 1])

    def test_sums(self):
        one, other = Line(3, 2), Line(-1, 5)
        for result, at_zero, slope in [(one + other, 2, 7), (one - other, 4, -3), (one + 5, 8, 2), (one - 5, -2, 2),
                                       (one * 4, 12, 8), (one * 0, 0, 0), (one * -1, -3, -2), (one + (MOST - 3) - MOST, 0, 2)]:
            self.assertIsInstance(result, Line)
            self.assertEqual([result.at_zero, result.slope], [at_zero, slope])
        self.assertEqual([one.at_zero, one.slope, other.at_zero, other.slope], [3, 2, -1, 5])
        self.assertEqual((Line(3, 2) * 2 - 1)(10), 45)

    def test_wrong_operands(self):
        line = Line(1, 2)
        wrong = [value for value in strange_values() if not isinstance(value, int) or isinstance(value, bool)]
        for call in [lambda other: line + other, lambda other: line - other, lambda other: line * other]:
            self.keeps_all(BadLine, NO_INTEGERS + wrong, call)
        other = Line(1)
        self.keeps(BadLine, other, lambda: line * other)

    def test_results_beyond_the_bounds(self):
        top, steep = Line(MOST, 0), Line(0, MOST)
        for call, number in [(lambda: top + 1, MOST + 1), (lambda: top + top, 2 * MOST), (lambda: top * -2, -2 * MOST),
                             (lambda: Line(-MOST) - 1, -MOST - 1), (lambda: steep + steep, 2 * MOST),
                             (lambda: steep - Line(0, -1), MOST + 1), (lambda: steep * 3, 3 * MOST),
                             (lambda: (top + steep) * 2, 2 * MOST), (lambda: Line(MOST, MOST) + Line(1, 2), MOST + 1),
                             (lambda: Line(0, MOST) + Line(1, 2), MOST + 2), (lambda: Line(2) + 10 ** 500, 10 ** 500 + 2)]:
            self.keeps_equal(BadLine, number, call)
        self.assertEqual((top - 1 + 1).at_zero, MOST)

    def test_equal(self):
        self.assertEqual(Line(3, 2), Line(3, 2))
        self.assertEqual(Line(3), Line(3, 0))
        for other in [Line(3, 1), Line(2, 2), 3, (3, 2), "2m+3", None]:
            self.assertFalse(Line(3, 2) == other)

    def test_texts(self):
        for at_zero, slope, text in [(7, 0, "7"), (-2, 0, "-2"), (0, 0, "0"), (0, 1, "m"), (0, -1, "-m"), (-2, 3, "3m-2"),
                                     (1, -2, "-2m+1"), (5, 1, "m+5"), (-5, -1, "-m-5"), (0, 4, "4m"), (0, -4, "-4m"),
                                     (FAR, FAR, f"{FAR}m+{FAR}"), (-MOST, MOST, f"{MOST}m-{MOST}")]:
            self.assertEqual(str(Line(at_zero, slope)), text)

    def test_through(self):
        for given, at_zero, slope in [((1, 5, 3, 1), 7, -2), ((0, 4, 1, 4), 4, 0), ((0, 1, FAR, FAR + 1), 1, 1),
                                      ((2, 0, 5, 9), -6, 3), ((0, 0, 1, MOST), 0, MOST), ((5, MOST, 6, MOST), MOST, 0)]:
            line = Line.through(*given)
            self.assertEqual([line.at_zero, line.slope], [at_zero, slope])
        self.assertEqual(str(Line.through(m=1, value=5, other=3, further=1)), "-2m+7")

    def test_no_line_through(self):
        for given in [(1, 5, 3, 2), (1, 5, 1, 5), (3, 5, 1, 1), (-1, 0, 1, 2), (0, 0, 1, MOST + 1), (0, MOST + 1, 1, MOST),
                      (2, 0, 3, MOST), (0, 1, 2, 2)]:
            self.keeps_equal(BadLine, given, Line.through, *given)
        for wrong in NO_INTEGERS:
            for place in range(4):
                given = [0, 1, 2, 3]
                given[place] = wrong
                kept = self.fails(BadLine, Line.through, *given).value
                self.assertIs(type(kept), tuple)
                self.assertEqual([one is other for one, other in zip(kept, given)], [True] * 4)


def meeting():
    return Net({"ann": loop("2n+1", send("c")) + send("d"), "bob": take("d") + loop("2n+1", take("c"))})


def enough_lined(shift=0):
    """A lined enough paper of the meeting for n = shift + m, shift from 1 on."""
    most = Line(2 * shift, 2)
    return ("enough", (most + 1, Line(1)), (times(most, "ann"), "ann", "ann", "bob", times(most, "bob"), "bob"))


def stuck_lined(shift=0):
    return ("stuck", (Line(2 * shift, 2), None), (times(Line(2 * shift, 2), "ann"),), ("ann", "bob"))


class PaperAtTest(Case):
    def test_values(self):
        paper = paper_at(enough_lined(1), 4)
        self.assertEqual(paper, ("enough", (11, 1), (("times", 10, ("ann",)), "ann", "ann", "bob", ("times", 10, ("bob",)), "bob")))
        self.assertTrue(is_enough_paper(meeting(), 5, paper))
        self.assertEqual(paper_at(stuck_lined(1), 0), ("stuck", (2, None), (("times", 2, ("ann",)),), ("ann", "bob")))
        self.assertEqual(paper_at(enough_lined(1), FAR)[1], (2 * FAR + 3, 1))

    def test_inner_items_and_none(self):
        paper = ("enough", (None, Line(2)), (times(Line(1, 1), times(Line(5), "ann"), "bob"), times(None, "cid")))
        self.assertEqual(paper_at(paper, 3), ("enough", (None, 2), (("times", 4, (("times", 5, ("ann",)), "bob")), ("times", None, ("cid",)))))
        self.assertEqual(paper_at(("enough", (), ()), 0), ("enough", (), ()))
        self.assertEqual(paper_at(("stuck", (), (), ()), 0), ("stuck", (), (), ()))
        anything = Strange()
        self.assertIs(paper_at(("stuck", (), ("ann",), (anything, 5)), 0)[3][0], anything)

    def test_no_lined_paper(self):
        right = enough_lined(1)
        deep = "ann"
        for _ in range(41):
            deep = times(Line(2), deep)
        wrong = strange_values() + [
            list(right), right[:2], right + ((),), ("Enough",) + right[1:], ("stuck",) + right[1:], (Strange(),) + right[1:],
            ("enough", list(right[1]), right[2]), ("enough", right[1], list(right[2])), ("enough", (1, 2), right[2]),
            ("enough", (Line(1), 2), right[2]), ("enough", Line(1), right[2]), ("enough", (Strange(),), right[2]),
            ("enough", (), (times(5, "ann"),)), ("enough", (), (times(Line(5)),)), ("enough", (), (times("m", "ann"),)),
            ("enough", (), (times(True, "ann"),)), ("enough", (), (("times", Line(5), ["ann"]),)), ("enough", (), ("Ann",)),
            ("enough", (), (times(Strange(), "ann"),)), ("enough", (), (times(Line(2), times(3, "ann")),)), ("enough", (), (deep,)),
            ("enough", (), ("ann",) * 2001), ("enough", (), (times(Line(1), *["ann"] * 2000),)), ("enough", (), None),
            ("enough", None, ()), ("stuck", (), (), []), ("stuck", (), (), None), ("stuck", (), (), "ann"), ("stuck", (), ()),
        ]
        for paper in wrong:
            with self.subTest(paper=str(type(paper))):
                self.keeps(BadPaper, paper, paper_at, paper, 0)
                self.assertIs(is_lined(meeting(), 1, 1, paper), False)
        self.keeps(BadPaper, None, paper_at, None, -1)
        self.assertEqual(len(paper_at(("enough", (), ("ann",) * 2000), 0)[2]), 2000)
        self.assertEqual(paper_at(("enough", (), deep[2]), 0)[0], "enough")

    def test_wrong_m(self):
        self.keeps_all(BadNumber, NO_INTEGERS + [-1, FAR + 1] + strange_values(), lambda m: paper_at(enough_lined(), m))

    def test_wrong_m_for_a_paper_without_lines(self):
        self.keeps_all(BadNumber, [-1, True, None, FAR + 1], lambda m: paper_at(("enough", (), ()), m))

    def test_nothing_changes(self):
        paper = enough_lined(1)
        paper_at(paper, 5)
        self.assertEqual(paper, enough_lined(1))


class SpansTest(Case):
    def test_where_processes_begin(self):
        several = 0
        for chance in chances(300, 31):
            net = chance_net(chance, 0.3) if chance.random() < 0.5 else self.late_net(chance)
            first, step = chance.randint(0, 12), chance.randint(1, 9)
            places = []
            for m in range(40):
                now = begin(net, first + step * m, least_possible(net))
                places.append([now.place(process)[0::2] for process in net.processes])
            breaks = [m for m in range(1, 40) if places[m] != places[m - 1]]
            found = ends_of_spans(net, first, step)
            self.assertEqual(found, list(zip([0] + breaks, [m - 1 for m in breaks] + [(FAR - first) // step])))
            several += len(breaks) > 1
        self.assertGreater(several, 15)

    def late_net(self, chance):
        """A process whose loops begin one behind another, the last ones ahead."""
        row = Row()
        for _ in range(chance.randint(1, 4)):
            count = (chance.randint(0, 3), chance.randint(-20, 0))
            inner = loop((1, chance.randint(-9, 1)), work(1)) if chance.random() < 0.5 else work(2)
            row = row + loop(count if count[0] else (0, chance.randint(0, 1)), inner)
        return Net({"ann": row + chance.choice((Row(), work(3), forever(loop("n-5", work(4))))), "bob": work(1)})

    def test_near_to_the_last_n(self):
        net = Net({"ann": loop((1, 3 - FAR), work(1)) + work(2)})
        self.assertEqual(ends_of_spans(net, FAR - 5, 1), [(0, 2), (3, 5)])
        self.assertEqual(ends_of_spans(net, FAR - 2, 1), [(0, 2)])
        self.assertEqual(ends_of_spans(net, FAR - 3, 3), [(0, 0), (1, 1)])
        self.assertEqual(ends_of_spans(Net({"ann": loop((1, -FAR), work(1))}), 0, 1), [(0, FAR)])


class IsLinedTest(Case):
    def test_right(self):
        self.assertIs(is_lined(meeting(), 1, 1, enough_lined(1)), True)
        self.assertIs(is_lined(meeting(), 1, 1, stuck_lined(1)), True)
        self.assertIs(is_lined(meeting(), 7, 1, enough_lined(7)), True)
        more = ("enough", (None, None), enough_lined(1)[2])
        self.assertIs(is_lined(meeting(), 1, 1, more), True)

    def test_other_steps(self):
        for first, step in [(1, 2), (2, 3), (5, 9), (FAR, 1), (FAR - 1, 1), (FAR - 8, 9), (FAR - 9, 9)]:
            most = Line(2 * first, 2 * step)
            paper = ("enough", (most + 1, Line(1)), (times(most, "ann"), "ann", "ann", "bob", times(most, "bob"), "bob"))
            self.assertIs(is_lined(meeting(), first, step, paper), True)
            other = 1 if step > 1 else 2
            self.assertIs(is_lined(meeting(), first, other, paper), first + other > FAR)

    def test_wrong_at_the_first_m(self):
        # K is 0 at n = 0.
        self.assertIs(is_lined(meeting(), 0, 1, enough_lined(0)), False)
        self.assertIs(is_lined(meeting(), 1, 1, enough_lined(2)), False)
        self.assertIs(is_lined(meeting(), 1, 1, enough_lined(0)), False)

    def test_wrong_later(self):
        for change in [lambda paper: ("enough", (Line(3), Line(1)), paper[2]),
                       lambda paper: ("enough", (Line(3, 1), Line(1)), paper[2]),
                       lambda paper: ("enough", paper[1], (times(Line(2), "ann"),) + paper[2][1:]),
                       lambda paper: ("enough", paper[1], (times(Line(2, 1), "ann"),) + paper[2][1:]),
                       lambda paper: ("enough", paper[1], (times(Line(2, 3), "ann"),) + paper[2][1:]),
                       lambda paper: ("enough", (Line(FAR + 4, -1), Line(1)), paper[2]),
                       lambda paper: ("enough", paper[1][::-1], paper[2]), lambda paper: ("enough", paper[1][:1], paper[2]),
                       lambda paper: ("enough", (Line(3, 10 ** 200), Line(1)), paper[2]),
                       lambda paper: ("enough", (Line(3, 2), Line(1, -1)), paper[2]),
                       lambda paper: ("enough", paper[1], paper[2][:-1]), lambda paper: ("enough", paper[1], paper[2][1:]),
                       lambda paper: ("enough", paper[1], paper[2] + ("zed",)), lambda paper: ("enough", paper[1], ()),
                       lambda paper: ("stuck", paper[1], paper[2], ("ann",)), lambda paper: ("stuck",) + paper[1:]]:
            self.assertIs(is_lined(meeting(), 1, 1, change(enough_lined(1))), False)
        for change in [lambda paper: ("stuck", (Line(2), None)) + paper[2:], lambda paper: ("stuck", (Line(2, 3), None)) + paper[2:],
                       lambda paper: paper[:3] + (("ann",),), lambda paper: paper[:3] + (("bob", "ann"),),
                       lambda paper: paper[:3] + ((),), lambda paper: ("stuck", paper[1], (), paper[3]),
                       lambda paper: ("enough",) + paper[1:3], lambda paper: ("stuck", (None, None)) + paper[2:]]:
            self.assertIs(is_lined(meeting(), 1, 1, change(stuck_lined(1))), False)

    def test_a_loop_that_begins_later(self):
        # Up to n = 50 nothing is to be done, then the processes go another way.
        net = Net({"ann": loop("n-50", send("c")) + send("d"), "bob": take("d") + loop("n-50", take("c"))})
        items = ("ann", "bob")
        self.assertTrue(is_enough_paper(net, 50, ("enough", (1, 1), items)))
        self.assertIs(is_lined(net, 0, 1, ("enough", (Line(1), Line(1)), items)), False)
        self.assertIs(is_lined(net, 49, 9, ("enough", (Line(1), Line(1)), items)), False)

    def test_a_process_that_never_moves(self):
        # It begins elsewhere from n = 100 on, but waits for the same all the time.
        net = Net({"ann": work(1), "bob": loop("n-99", take("c")) + take("c"), "cid": loop("n-199", take("d")) + take("e"),
                   "dan": loop("n-199", work(2)) + take("f")})
        rooms = (Line(1),) * 4
        for process in ["bob", "cid", "dan"]:
            single = Net({"ann": work(1), process: net.row(process)})
            paper = ("enough", rooms[:len(single.stores)], ("ann",))
            at_all = [is_enough_paper(single, n, paper_at(paper, 0)) for n in (0, 98, 99, 100, 199, 200, FAR)]
            self.assertIs(is_lined(single, 0, 1, paper), all(at_all))
            self.assertEqual(all(at_all), process != "dan")
        # Each span must hold at both of its ends: here it can do a step in between.
        between = Net({"ann": loop("n-10", take("c", 3)) + loop("n-5", work(1)) + take("c"), "bob": work(1)}, {"c": 0 + 1})
        self.assertIs(is_lined(between, 0, 1, ("enough", (Line(3),), ("bob",))), False)
        stuck = Net({"ann": loop("n-10", send("c", 2)) + loop("n-5", take("d")) + send("c", 2), "bob": work(1)}, {"c": 2})
        self.assertFalse(is_stuck_paper(stuck, 7, ("stuck", (3, 1), (), ("ann",))))
        self.assertTrue(is_stuck_paper(stuck, 3, ("stuck", (3, 1), (), ("ann",))))
        self.assertIs(is_lined(stuck, 0, 1, ("stuck", (Line(3), Line(1)), (), ("ann",))), False)
        self.assertIs(is_lined(stuck, 11, 1, ("stuck", (Line(3), Line(1)), (), ("ann",))), True)

    def test_a_way_that_is_another_one_in_between(self):
        # Right up to n = 5 and from 10 on, but not in between, where another loop is gone through.
        net = Net({"ann": work(5) + loop("n-9", work(1) + take("x")) + loop("n-5", work(3)) + work(2) + take("x")})
        paper = ("enough", (Line(1),), ("ann", "ann"))
        right = [is_enough_paper(net, n, paper_at(paper, 0)) for n in (0, 5, 6, 9, 10, FAR)]
        self.assertEqual(right, [True, True, False, False, True, True])
        self.assertIs(is_lined(net, 0, 1, paper), False)
        self.assertIs(is_lined(net, 10, 1, paper), True)
        # The same, but the loop stands at the beginning.
        ahead = Net({"ann": loop("n-9", work(1) + take("x")) + loop("n-5", work(3)) + work(2) + take("x")})
        self.assertIs(is_lined(ahead, 0, 1, ("enough", (Line(1),), ("ann",))), False)
        self.assertIs(is_lined(ahead, 0, 9, ("enough", (Line(1),), ("ann",))), False)

    def test_the_last_round_or_one_more(self):
        # Behind its step ann goes into the next round of the inner loop, of the outer one, or on.
        net = Net({"ann": loop("n-7", loop("n-3", work(1))) + take("x")})
        for first, items in [(8, (times(Line(4, 1), "ann"), "ann", times(Line(4, 1), "ann"), "ann")), (8, ("ann", "ann"))]:
            self.assertIs(is_lined(net, first, 1, ("enough", (Line(1),), items)), False)

    def test_the_same_k_or_the_same_change(self):
        # Each go of the outer item takes another number of steps, and there are more and more of them.
        square = Net({"ann": loop("n", loop("n", work(1)))})
        items = (times(Line(1, 1), times(Line(1, 1), "ann"), "ann"), times(Line(1, 1), "ann"), "ann")
        self.assertIs(is_lined(square, 2, 1, ("enough", (), items)), True)
        filled = Net({"ann": loop("n", loop("n", send("c")))})
        self.assertTrue(is_enough_paper(filled, 5, paper_at(("enough", (None,), items), 3)))
        self.assertIs(is_lined(filled, 2, 1, ("enough", (None,), items)), False)

    def test_without_end(self):
        net = Net({"ann": forever(loop("n", send("c"))), "bob": forever(take("c") + work(1))})
        items = (times(None, times(Line(1, 1), "ann", "bob", "bob"), "ann", "bob", "bob"),)
        self.assertIs(is_lined(net, 2, 1, ("enough", (Line(1),), items)), True)
        self.assertIs(is_lined(net, 1, 1, ("enough", (Line(1),), items)), False)

    def test_against_many_n(self):
        chance = random.Random(3)
        counted = {True: 0, False: 0}
        for _ in range(300):
            paper = list(chance.choice([enough_lined, stuck_lined])(1))
            kind = chance.randrange(3)
            if kind == 0:
                paper[1] = (Line(chance.randint(2, 4), chance.choice((2, 2, 3, 1))), chance.choice((None, Line(1), Line(0, 1))))
            elif kind == 1:
                items = list(paper[2])
                items[0] = times(Line(chance.randint(1, 3), chance.choice((2, 2, 1))), "ann")
                paper[2] = tuple(items)
            lined = is_lined(meeting(), 1, 1, tuple(paper))
            check = is_enough_paper if paper[0] == "enough" else is_stuck_paper
            for m in (0, 1, 2, 7, 10 ** 6, FAR - 2, FAR - 1):
                if lined:
                    self.assertTrue(check(meeting(), 1 + m, paper_at(tuple(paper), m)))
            counted[lined] += 1
        self.assertGreater(min(counted.values()), 50)

    def test_wrong_arguments(self):
        net, paper = meeting(), enough_lined(1)
        self.keeps_all(BadNet, strange_values(), lambda thing: is_lined(thing, -1, 0, None))
        self.keeps_all(BadNumber, strange_values() + [FAR + 1], lambda thing: is_lined(net, thing, 0, None))
        self.keeps_all(BadNumber, strange_values() + [0, 10, -1, True, 1.0], lambda thing: is_lined(net, 1, thing, None))
        self.assertIs(is_lined(net, 0, 9, None), False)
        self.assertIs(is_lined(net, FAR, 1, paper), False)
        self.assertIs(is_lined(Net({"ann": Row()}), 0, 1, ("enough", (), ())), True)


if __name__ == "__main__":
    unittest.main()

"""[1], [4] and [3]: all parts of the program say the same of the same nets and rooms."""

import itertools
import unittest

from leastrooms.changes import Draft, fates
from leastrooms.console import Console
from leastrooms.corners import corners, is_enough, least_rooms, undercut, why_not
from leastrooms.desks import Desk, read_plan, repair, write_plan
from leastrooms.engine import Engine, judge_record
from leastrooms.errors import BadChange, NotStraight, TooLong, TooMany
from leastrooms.formulas import formulas, judge_lines
from leastrooms.growing import Narrow, Policy, Wide, grow
from leastrooms.journals import read_journal, resume, write_journal
from leastrooms.papers import certificate, is_enough_paper, is_stuck_paper, judge
from leastrooms.questions import Ends, Enough, Holds, when
from leastrooms.rooms import Rooms, least_possible
from leastrooms.runs import run
from leastrooms.texts import parse_row
from tests.helping import Case, chance_net, chance_rooms, chances, crossing_net
from tests.playing import is_enough_by_steps
from tests.test_console import as_text, lines_of, told


def some_rooms(net, least):
    """A few rooms around the least ones, in all ways."""
    tops = {store: max([net.least_room(store)] + [one[store] for one in least if one[store] is not None]) for store in net.stores}
    grid = [sorted({net.least_room(store), tops[store], max(net.least_room(store), tops[store] - 1)}) for store in net.stores]
    return [Rooms(dict(zip(net.stores, numbers))) for numbers in itertools.product(*grid)][:30]


class WholeTest(Case):
    def test_all_parts_say_the_same(self):
        looked_at = 0
        for index, chance in enumerate(chances(90, 413)):
            net = crossing_net(chance) if index % 3 else chance_net(chance, 0.2)
            n = chance.randint(0, 4)
            try:
                least = least_rooms(net, n)
                greatest = corners(net, n)
            except (TooMany, TooLong):
                continue
            for rooms in some_rooms(net, least) + [chance_rooms(chance, net)]:
                self.look_at(net, n, rooms, least, greatest)
                looked_at += 1
        self.assertGreater(looked_at, 300)

    def look_at(self, net, n, rooms, least, greatest):
        enough = is_enough(net, n, rooms)
        far = run(net, n, rooms)
        self.assertEqual(far.is_enough, enough)
        self.assertEqual(any(one.fits(rooms) for one in least), enough)
        self.assertEqual(any(rooms.fits(one) for one in greatest), not enough)
        self.assertEqual(undercut(net, n, rooms) is not None, enough)
        self.assertEqual(why_not(net, n, rooms) is None, enough)
        desk = Desk(net, n, rooms)
        self.assertEqual([desk.works(), desk.least(), desk.lacking()], [enough, least, why_not(net, n, rooms)])
        self.assertEqual(when(Enough(), desk, []), [0] if enough else [])
        console = told(*lines_of(net, n, rooms))
        self.assertEqual([console.run("least"), console.run("corners")], [as_text(least), as_text(greatest)])
        self.assertEqual(console.run("enough"), "yes" if enough else f"no {as_text([desk.lacking()])}")
        self.assertEqual(console.run("ends"), ", ".join(f"{process} {far.state(process)}" for process in net.processes))
        words = fates(net, n, rooms)
        self.assertEqual(enough, "full" not in [far.state(process) for process in net.processes])
        for process in net.processes:
            self.assertEqual(when(Ends(process, words[process]), desk, []), [0])
        if not far.is_endless:
            played = is_enough_by_steps(net, n, rooms)
            self.assertIn(played, (enough, None))

    def test_papers_formulas_and_growth(self):
        for chance in chances(40, 414):
            net = crossing_net(chance)
            try:
                found = formulas(net)
                for n in (0, 1, 5, 10 ** 12):
                    self.assertEqual(found.least_at(n), least_rooms(net, n))
                    self.assertEqual(found.corners_at(n), corners(net, n))
                for told_papers in found.papers():
                    self.assertEqual(judge_lines(net, told_papers), ("accepted",))
            except (NotStraight, TooMany, TooLong):
                continue
            whole = certificate(net, 3)
            self.assertEqual(judge(net, 3, whole), ("accepted",))
            self.assertTrue(all(is_enough_paper(net, 3, paper) for paper in whole[1]))
            self.assertTrue(all(is_stuck_paper(net, 3, paper) for paper in whole[2]))
            for policy in (Policy(), Narrow(), Wide()):
                growth = grow(net, 3, least_possible(net), policy)
                self.assertTrue(is_enough(net, 3, growth.rooms))
                self.assertIsNotNone(undercut(net, 3, growth.rooms))
                if growth.is_forced:
                    self.assertEqual(least_rooms(net, 3), [growth.rooms])

    def test_desks_drafts_and_plans(self):
        for chance in chances(60, 415):
            net = chance_net(chance)
            desk = Desk(net, 2, least_possible(net))
            draft = Draft(net)
            for _ in range(5):
                process = chance.choice(net.processes)
                change = chance.choice([
                    ("row", process, net.row(chance.choice(net.processes)).parts), ("kill", process, 2, chance.randint(0, 5)),
                    ("first", chance.choice(net.channels + ("p",)), chance.randint(0, 3)), ("relay", "p", "zed", "z"),
                ])
                try:
                    draft = draft >> change
                except BadChange:
                    self.keeps(BadChange, change, desk.do, ("change", change))
                else:
                    desk.do(("change", change))
            self.assertEqual(desk.net, draft.net)
            self.assertEqual([event[1] for event in desk.events], list(draft.changes))
            again = Desk(net, 2, least_possible(net))
            again.do_all(read_plan(write_plan(desk.events)))
            self.assertEqual([again.net, again.rooms], [desk.net, desk.rooms])
            for process in desk.net.processes:
                self.assertEqual(parse_row(str(desk.net.row(process))), desk.net.row(process))

    def test_repairs_are_enough(self):
        for chance in chances(40, 416):
            net = crossing_net(chance)
            desk = Desk(net, 3, least_possible(net))
            try:
                events = repair(desk, {store: chance.randint(0, 3) for store in net.stores})
            except (TooMany, TooLong):
                continue
            self.assertEqual(when(Enough(), desk, events)[-1:], [len(events)])
            for _, store, room in events:
                self.assertFalse(Holds(store, room)(desk))
            desk.do_all(events)
            self.assertTrue(all(Holds(store, room)(desk) for _, store, room in events))

    def test_engines_end_where_runs_end(self):
        for chance in chances(60, 417):
            net = chance_net(chance)
            rooms = chance_rooms(chance, net)
            engine = Engine(net, 2, rooms)
            engine.play(None, 10000)
            far = run(net, 2, rooms)
            self.assertEqual(engine.moment, far.moment)
            self.assertEqual(far.course.total_steps, len(engine.log))
            text = write_journal(engine.log)
            again = Engine(net, 2, rooms)
            self.assertEqual(resume(again, text), len(engine.log))
            self.assertEqual([again.held(process) for process in net.processes], [engine.held(process) for process in net.processes])
            self.assertIsNone(judge_record(Engine(net, 2, rooms), read_journal(text)))

    def test_a_console_that_knows_nothing(self):
        self.assertEqual(Console().run("least"), "no net")


if __name__ == "__main__":
    unittest.main()

"""[2], [3]: every function, class and method takes its arguments by their names, in any order, and answers the same."""

import itertools
import types
import unittest

from leastrooms import (
    beats, changes, console, corners, counts, courses, desks, ends, engine, formulas, growing, journals, lines, moments, nets,
    papers, questions, rooms, rows, runs, texts, trades,
)
from leastrooms.errors import NoEntry, Refused, RoomError

MEETING = {
    "ann": rows.loop("n", rows.send("c")) + rows.send("d"), "bob": rows.take("d") + rows.loop("n", rows.take("c")),
}
PLAIN = (int, str, bool, type(None))


def net_of_two():
    return nets.Net(MEETING)


def beating():
    return nets.Net({"ann": rows.forever(rows.send("c") + rows.work(3)), "bob": rows.forever(rows.take("c") + rows.work(4))})


def small():
    return rooms.Rooms({"c": 2, "d": 1})


def stuck():
    return ends.end_of(moments.begin(net_of_two(), 3, small()))


def plain(thing, depth=0):
    """What a value is, as tuples of plain values."""
    if isinstance(thing, PLAIN):
        return thing
    if isinstance(thing, types.GeneratorType):
        return [plain(one, depth) for one in itertools.islice(thing, 50)]
    if isinstance(thing, (list, tuple)):
        return [plain(one, depth) for one in thing]
    if isinstance(thing, dict):
        return sorted((repr(key), plain(one, depth)) for key, one in thing.items())
    if depth == 9 or isinstance(thing, types.FunctionType):
        return type(thing).__name__
    told = {name: value for name, value in vars(thing).items() if not isinstance(value, types.FunctionType)}
    return [type(thing).__name__, plain(told, depth + 1)]


def afresh(shelf, name):
    """A method of an engine, each time of a new one."""
    def call(*told, **given):
        return getattr(shelf.copy(), name)(*told, **given)
    return call


def calls():
    """Tuples of a function or method and its arguments, by name, in order."""
    net, fine, now = net_of_two(), small(), stuck()
    row = rows.send("c") + rows.work(2)
    course = courses.Course(["ann", "bob"])
    desk = desks.Desk(net, 3, fine)
    paper = papers.stuck_paper(net, 3, fine)
    tuned = beats.Beats(beating(), rooms.Rooms({"c": 1}))
    found = formulas.formulas(net)
    lined = found.papers()[0]
    shelf = engine.Engine(net, 3, fine)
    yield from [
        (counts.is_count, {"thing": (1, 2)}), (counts.rounds, {"count": (2, 3), "n": 5}), (counts.format_count, {"count": (2, 3)}),
        (counts.parse_count, {"text": "2n+3"}), (rows.Row, {"parts": (("work", 1),)}), (rows.send, {"channel": "c", "k": 2}),
        (rows.take, {"channel": "c", "k": 3}), (rows.work, {"time": 4}), (rows.loop, {"count": "n", "row": row}),
        (rows.forever, {"row": row}), (rows.channels_of, {"row": row}), (rows.messages, {"row": row, "n": 3}),
        (texts.parse_row, {"text": "send c 2; work 5"}),
        (nets.Net, {"programs": MEETING, "first": {"c": 1}, "stores": {"s": ["c", "d"]}}),
        (net.row, {"process": "ann"}), (net.sender, {"channel": "c"}), (net.taker, {"channel": "d"}), (net.first, {"channel": "c"}),
        (net.store_of, {"channel": "c"}), (net.channels_in, {"store": "c"}), (net.least_room, {"store": "d"}),
        (rooms.Rooms, {"values": {"c": 1}}), (fine.raised, {"store": "c", "room": 5}), (fine.fits, {"other": small()}),
        (rooms.least_possible, {"net": net}), (rooms.without_limit, {"net": net}),
        (moments.begin, {"net": net, "n": 3, "rooms": fine}), (now.level, {"channel": "c"}), (now.level_in, {"store": "c"}),
        (now.place, {"process": "ann"}), (now.next_part, {"process": "ann"}), (now.wait, {"process": "ann"}),
        (ends.steps_by_turns, {"moment": moments.begin(net, 3, fine)}), (ends.end_of, {"moment": now, "most": 5}),
        (ends.lost, {"moment": now, "movers": ["bob"]}), (ends.is_knot, {"moment": now, "thing": ["ann", "bob"], "movers": ()}),
        (ends.knots, {"moment": now, "movers": ()}), (ends.corner_of, {"moment": now, "knot": ["ann", "bob"], "movers": ()}),
        (courses.Course, {"items": ["ann"]}), (courses.follow, {"moment": moments.begin(net, 0, fine),
                                                               "course": courses.Course(["ann", "bob"])}),
        (courses.movers_of, {"course": course}), (runs.run, {"net": net, "n": 3, "rooms": fine}),
        (runs.run(net, 3, fine).state, {"process": "ann"}),
        (corners.is_enough, {"net": net, "n": 3, "rooms": fine}), (corners.least_rooms, {"net": net, "n": 3}),
        (corners.corners, {"net": net, "n": 3}), (corners.why_not, {"net": net, "n": 3, "rooms": fine}),
        (corners.undercut, {"net": net, "n": 2, "rooms": fine}), (corners.cheapest, {"net": net, "n": 3, "prices": {"c": 1, "d": 2}}),
        (corners.least_above, {"net": net, "thing": [fine]}), (corners.greatest_below, {"net": net, "thing": [fine]}),
        (papers.vector_of, {"net": net, "rooms": fine}), (papers.rooms_of, {"net": net, "vector": (2, 1)}),
        (papers.enough_paper, {"net": net, "n": 2, "rooms": fine}), (papers.stuck_paper, {"net": net, "n": 3, "rooms": fine}),
        (papers.is_enough_paper, {"net": net, "n": 3, "thing": paper}), (papers.is_stuck_paper, {"net": net, "n": 3, "thing": paper}),
        (papers.waits_in, {"net": net, "n": 3, "paper": paper}), (papers.certificate, {"net": net, "n": 3}),
        (papers.judge, {"net": net, "n": 3, "thing": papers.certificate(net, 3)}),
        (lines.Line, {"at_zero": 2, "slope": 3}), (lines.Line(2, 3), {"m": 5}),
        (lines.Line.through, {"m": 1, "value": 5, "other": 3, "further": 1}), (lines.paper_at, {"paper": lined[2][0], "m": 2}),
        (lines.is_lined, {"net": net, "first": lined[0], "step": lined[1], "thing": lined[2][0]}),
        (formulas.formulas, {"net": net}), (formulas.judge_lines, {"net": net, "thing": lined}), (found.least_lines, {"rest": 0}),
        (found.corner_lines, {"rest": 0}), (found.least_at, {"n": 4}), (found.corners_at, {"n": 4}),
        (growing.Cheap, {"prices": {"c": 1}}), (growing.Policy(), {"moment": now, "knot": ["ann", "bob"], "movers": ()}),
        (growing.Narrow().rank, {"moment": now, "store": "c", "corner": 2}),
        (growing.grow, {"net": net, "n": 3, "rooms": fine, "policy": growing.Policy()}),
        (growing.cost_of, {"rooms": fine, "prices": {"c": 1, "d": 2}}),
        (growing.regret, {"net": net, "n": 3, "prices": {"c": 1, "d": 2}, "policy": growing.Wide()}),
        (growing.regrets, {"net": net, "n": 3, "prices": {"c": 1, "d": 2}}),
        (beats.rounds_in, {"net": beating()}), (beats.events_in, {"net": beating()}),
        (beats.Beats, {"net": beating(), "rooms": rooms.Rooms({"c": 1})}), (tuned.begins, {"rounds": 3}),
        (beats.is_as_fast, {"one": (5, 2), "other": (3, 1)}), (beats.pace_paper, {"beats": tuned}),
        (beats.is_pace_paper, {"beats": tuned, "thing": beats.pace_paper(tuned)}),
        (trades.fastest, {"net": beating()}), (trades.trades, {"net": beating()}),
        (trades.pace_at, {"net": beating(), "rooms": rooms.Rooms({"c": 1})}), (trades.best_within, {"net": beating(), "total": 4}),
        (trades.room_for, {"net": beating(), "pace": (9, 1)}),
        (changes.is_change, {"thing": ("part", "s")}), (changes.Draft, {"net": net}), (changes.cut, {"row": row, "n": 3, "steps": 1}),
        (changes.steps_in_row, {"row": row, "n": 3}), (changes.fates, {"net": net, "n": 3, "rooms": fine}),
        (changes.fates_after, {"net": net, "n": 3, "rooms": fine, "process": "bob", "steps": 1}),
        (changes.difference, {"net": net, "other": net, "n": 3}),
        (engine.Engine, {"net": net, "n": 3, "rooms": fine, "seeds": {"ann": 4}, "fold": None}), (shelf.held, {"process": "ann"}),
        (shelf.stream, {"channel": "c"}), (shelf.waiting, {"channel": "c"}), (afresh(shelf, "step"), {"process": "ann"}),
        (afresh(shelf, "play"), {"order": ["bob", "ann"], "most": 2}),
        (engine.tried, {"engine": shelf, "processes": ["ann"], "keep": False}), (engine.judge_record, {"engine": shelf, "record": [1]}),
        (journals.write_journal, {"entries": [("ann", "work", 5, ())]}), (journals.read_journal, {"text": journals.write_journal([("ann", "work", 5, ())])}),
        (journals.recover, {"text": "x"}), (journals.resume, {"engine": shelf, "text": "x"}),
        (desks.Desk, {"net": net, "n": 3, "rooms": fine}), (desk.do, {"event": ("n", 3)}), (desk.do_all, {"events": []}),
        (desks.repair, {"desk": desks.Desk(net, 3, fine), "prices": {"c": 1, "d": 1}}), (desks.write_plan, {"events": [("n", 3)]}),
        (desks.read_plan, {"text": "n 3\n"}), (questions.Holds, {"store": "c", "k": 2}),
        (questions.Ends, {"process": "ann", "fate": "stuck"}), (questions.Question(), {"desk": desk}),
        (questions.Enough(), {"desk": desk}), (questions.Holds("c", 2), {"desk": desk}), (questions.Ends("ann", "ended"), {"desk": desk}),
        (questions.when, {"question": questions.Enough(), "desk": desk, "events": [("n", 2)]}),
        (console.Console().run, {"line": "number 3"}),
    ]


class NamesTest(unittest.TestCase):
    def test_by_name_in_any_order(self):
        many = 0
        for call, given in calls():
            name = getattr(call, "__qualname__", type(call).__name__)
            with self.subTest(name=name):
                expected = self.answer(lambda: call(*given.values()))
                for order in itertools.permutations(given):
                    self.assertEqual(self.answer(lambda: call(**{key: given[key] for key in order})), expected)
                many += 1
        self.assertGreater(many, 100)

    def answer(self, call):
        try:
            return plain(call())
        except (RoomError, NoEntry, Refused) as error:
            return [type(error).__name__, plain(error.value)]

    def test_no_other_names(self):
        for call, given in calls():
            with self.assertRaises(TypeError):
                call(*given.values(), strange=1)


if __name__ == "__main__":
    unittest.main()

"""[34], [35]: changes of nets, cut programs, and what becomes of processes."""

import unittest

from leastrooms.changes import Draft, cut, difference, fates, fates_after, is_change, steps_in_row
from leastrooms.corners import least_rooms
from leastrooms.ends import end_of, lost
from leastrooms.errors import (
    BadChange, BadNet, BadNumber, BadRooms, BadRow, NoProcess, Small, TooLong, TooMany,
)
from leastrooms.moments import begin
from leastrooms.nets import Net
from leastrooms.rooms import Rooms, least_possible, without_limit
from leastrooms.rows import Row, forever, loop, send, take, work
from leastrooms.runs import run
from tests.helping import Case, Strange, chance_net, chance_rooms, chance_row, chances, crossing_net, strange_values, walk

FAR = 10 ** 30


def meeting():
    return Net({"ann": loop("n", send("c")) + send("d"), "bob": take("d") + loop("n", take("c"))})


def sharing():
    """One process that sends into five channels, three of them in one store, and one that takes from four."""
    return Net(
        {"ann": send("p", 2) + send("q") + send("r") + send("s") + send("t"),
         "bob": take("p") + take("q") + take("r") + take("s")},
        {"p": 1, "q": 2, "s": 3}, {"store": ("p", "q", "r")},
    )


def right_changes():
    """Changes of each kind, right for all nets that have the names."""
    return [
        ("row", "ann", ()), ("row", "ann", (("work", 1),)), ("row", "abcdefgh", (("forever", (("send", "z", 9),)),)),
        ("first", "p", 0), ("first", "p", 99), ("join", "s", ("p", "q")), ("join", "s", ("p", "q", "r", "s")),
        ("join", "p", ("p", "q")), ("part", "s"), ("relay", "p", "cid", "x"), ("relay", "p", "p", "p"),
        ("kill", "ann", 0, 0), ("kill", "ann", FAR, FAR),
    ]


def wrong_changes():
    """Values that are no changes: each one thing wrong."""
    return [
        ("row", "ann"), ("row", "ann", (), ()), ("row", "Ann", ()), ("row", 1, ()), ("row", None, ()), ("row", "", ()),
        ("row", "ann", []), ("row", "ann", Row()), ("row", "ann", None), ("row", "ann", (("send", "c"),)),
        ("row", "ann", (("forever", ()), ("work", 1))), ("row", "ann", (("work", 1),) * 61), ("row", "ann", "work 1"),
        ("row", "ann", (("loop", "n", ()),)), ("row", "ann", (["work", 1],)),
        ("first", "p"), ("first", "p", -1), ("first", "p", 100), ("first", "p", True), ("first", "p", 1.0),
        ("first", "p", None), ("first", "P", 1), ("first", 1, 1), ("first", "p", 1, 1), ("first", "p", Strange()),
        ("join", "s"), ("join", "s", ()), ("join", "s", ("p",)), ("join", "s", ("p", "p")), ("join", "s", ("p", "q", "p")),
        ("join", "s", ["p", "q"]), ("join", "s", "pq"), ("join", "s", ("p", "Q")), ("join", "s", ("p", 1)),
        ("join", "S", ("p", "q")), ("join", 1, ("p", "q")), ("join", "s", ("p", "q"), 1), ("join", "s", "p", "q"),
        ("join", "s", ("p", [])), ("join", "s", None),
        ("part",), ("part", "s", "t"), ("part", "S"), ("part", None), ("part", ("s",)),
        ("relay", "p", "cid"), ("relay", "p", "cid", "x", "y"), ("relay", "P", "cid", "x"), ("relay", "p", "Cid", "x"),
        ("relay", "p", "cid", "abcdefghi"), ("relay", "p", "cid", None), ("relay", 1, "cid", "x"), ("relay", "p", (), "x"),
        ("kill", "ann", 0), ("kill", "ann", 0, 0, 0), ("kill", "ann", -1, 0), ("kill", "ann", 0, -1),
        ("kill", "ann", FAR + 1, 0), ("kill", "ann", 0, FAR + 1), ("kill", "ann", True, 0), ("kill", "ann", 0, False),
        ("kill", "ann", 0.0, 0), ("kill", "ann", None, 0), ("kill", "ann", 0, None), ("kill", "Ann", 0, 0),
        ("kill", 0, 0, 0), ("grow", "p", 1), ("Row", "ann", ()), ["row", "ann", ()], ["part", "s"], ("room", "p", 1),
        (Strange(), "ann", ()), ("undo",), ("n", 1),
    ]


class IsChangeTest(Case):
    def test_right(self):
        for change in right_changes():
            self.assertIs(is_change(change), True, change)

    def test_wrong(self):
        for thing in strange_values() + wrong_changes():
            self.assertIs(is_change(thing), False)

    def test_a_row_may_be_as_great_as_rows_may(self):
        self.assertTrue(is_change(("row", "ann", (("work", 1),) * 60)))
        deep = (("loop", (0, 2), (("loop", (0, 2), (("loop", (0, 2), (("loop", (0, 2), ()),)),)),)),)
        self.assertTrue(is_change(("row", "ann", deep)))
        self.assertFalse(is_change(("row", "ann", (("loop", (0, 2), deep),))))


class DraftTest(Case):
    def test_beginning(self):
        net = meeting()
        draft = Draft(net)
        self.assertEqual(draft.net, net)
        self.assertEqual(draft.changes, ())
        self.keeps_all(BadNet, strange_values(), Draft)

    def test_changes_are_kept_and_the_draft_stays(self):
        net = sharing()
        draft = Draft(net)
        one = draft >> ("first", "p", 0)
        two = one >> ("part", "store")
        other = one >> ("first", "q", 0)
        self.assertEqual([draft.changes, one.changes], [(), (("first", "p", 0),)])
        self.assertEqual(two.changes, (("first", "p", 0), ("part", "store")))
        self.assertEqual(other.changes, (("first", "p", 0), ("first", "q", 0)))
        self.assertEqual(draft.net, sharing())
        self.assertEqual(net, sharing())
        self.assertEqual(one.net.first("q"), 2)

    def test_what_is_no_change(self):
        draft = Draft(sharing())
        for thing in strange_values() + wrong_changes():
            with self.assertRaises(BadChange) as caught:
                draft >> thing
            self.assertIs(caught.exception.value, thing)
        self.assertEqual(draft.net, sharing())
        self.assertEqual(draft.changes, ())

    def refused(self, net, *changes):
        draft = Draft(net)
        for change in changes:
            with self.subTest(change=change):
                self.assertTrue(is_change(change))
                with self.assertRaises(BadChange) as caught:
                    draft >> change
                self.assertIs(caught.exception.value, change)
                self.assertEqual(draft.net, net)

    def test_row(self):
        net = meeting()
        new = (Draft(net) >> ("row", "ann", (("send", "c", 2), ("send", "e", 1)))).net
        self.assertEqual(new, Net({"ann": send("c", 2) + send("e"), "bob": net.row("bob")}))
        self.assertEqual((Draft(net) >> ("row", "bob", ())).net, Net({"ann": net.row("ann"), "bob": Row()}))
        self.refused(net, ("row", "cid", ()), ("row", "c", ()), ("row", "ann", (("take", "d", 1),)),
                     ("row", "ann", (("send", "c", 1), ("take", "c", 1))))

    def test_row_with_too_many_channels(self):
        net = Net({"ann": Row(), "bob": Row()})
        parts = tuple(("send", "c" + letter, 1) for letter in "abcdefghijklm")
        self.assertEqual(len((Draft(net) >> ("row", "ann", parts[:12])).net.channels), 12)
        self.refused(net, ("row", "ann", parts))

    def test_channels_that_no_program_names_any_more(self):
        net = sharing()
        # p and q go, with their first messages, and so the store of three has one channel left.
        parts = (("send", "r", 1), ("send", "s", 1), ("send", "t", 1))
        draft = Draft(net) >> ("row", "bob", (("take", "r", 1),)) >> ("row", "ann", parts)
        self.assertEqual(draft.net, Net({"ann": Row(parts), "bob": take("r")}, {"s": 3}))
        self.assertEqual(draft.net.stores, ("r", "s", "t"))
        # Only p goes: q and r share the store on.
        parts = (("send", "q", 1), ("send", "r", 1))
        draft = Draft(net) >> ("row", "bob", (("take", "q", 1), ("take", "r", 1))) >> ("row", "ann", parts)
        self.assertEqual(draft.net, Net({"ann": Row(parts), "bob": take("q") + take("r")}, {"q": 2}, {"store": ("q", "r")}))
        # A channel that comes back has no first messages and its own store.
        draft = draft >> ("row", "ann", (("send", "p", 1),) + parts)
        self.assertEqual(draft.net.first("p"), 0)
        self.assertEqual(draft.net.store_of("p"), "p")

    def test_a_channel_in_a_shared_store_that_nobody_sends_to_any_more(self):
        self.refused(sharing(), ("row", "ann", (("send", "q", 1), ("send", "r", 1))), ("row", "ann", ()))

    def test_first(self):
        net = sharing()
        for k in (1, 2, 99):
            self.assertEqual((Draft(net) >> ("first", "r", k)).net.first("r"), k)
            self.assertEqual((Draft(net) >> ("first", "p", k)).net.first("p"), k)
        self.assertEqual((Draft(net) >> ("first", "p", 0)).net.first("p"), 0)
        self.assertEqual((Draft(net) >> ("first", "r", 0)).net, net)
        self.assertEqual((Draft(net) >> ("first", "p", 99)).net.least_room("store"), 101)
        self.refused(net, ("first", "x", 1), ("first", "x", 0), ("first", "store", 1), ("first", "ann", 1))

    def test_join(self):
        net = sharing()
        new = (Draft(net) >> ("join", "new", ("t", "s"))).net
        self.assertEqual(new.channels_in("new"), ["s", "t"])
        self.assertEqual(new.stores, ("new", "store"))
        self.assertEqual((Draft(net) >> ("join", "bob", ("t", "s"))).net.stores, ("bob", "store"))
        self.refused(net, ("join", "new", ("s", "p")), ("join", "store", ("s", "t")), ("join", "s", ("s", "t")),
                     ("join", "p", ("s", "t")), ("join", "new", ("s", "x")), ("join", "new", ("s", "store")))
        other = Net({"ann": send("c"), "bob": take("c") + send("d"), "cid": take("d") + take("e") + take("f")})
        self.refused(other, ("join", "new", ("c", "d")), ("join", "new", ("d", "e")), ("join", "new", ("e", "f")))

    def test_part(self):
        net = sharing()
        new = (Draft(net) >> ("part", "store")).net
        self.assertEqual(new.stores, ("p", "q", "r", "s", "t"))
        self.assertEqual([new.first(channel) for channel in new.channels], [1, 2, 0, 3, 0])
        self.assertEqual((Draft(net) >> ("part", "store") >> ("join", "store", ("r", "q", "p"))).net, net)
        self.refused(net, ("part", "s"), ("part", "p"), ("part", "x"), ("part", "ann"))

    def test_relay(self):
        net = meeting()
        new = (Draft(net) >> ("relay", "c", "cid", "x")).net
        expected = {"ann": net.row("ann"), "bob": take("d") + loop("n", take("x")), "cid": forever(take("c") + send("x"))}
        self.assertEqual(new, Net(expected))
        self.assertEqual([[room for _, room in rooms.pairs()] for rooms in least_rooms(new, 5)],
                         [[1, 1, 3], [2, 1, 2], [3, 1, 1]])
        self.refused(net, ("relay", "x", "cid", "y"), ("relay", "c", "ann", "x"), ("relay", "c", "bob", "x"),
                     ("relay", "c", "cid", "d"), ("relay", "c", "cid", "c"))

    def test_relay_with_first_messages_in_a_shared_store(self):
        net = sharing()
        new = (Draft(net) >> ("relay", "q", "cid", "x")).net
        self.assertEqual(new.first("q"), 2)
        self.assertEqual(new.first("x"), 0)
        self.assertEqual(new.channels_in("store"), ["p", "q", "r"])
        self.assertEqual(new.store_of("x"), "x")
        self.assertEqual(new.taker("q"), "cid")
        self.assertEqual(new.row("bob"), take("p") + take("x") + take("r") + take("s"))
        self.refused(net, ("relay", "t", "cid", "x"), ("relay", "q", "cid", "store"), ("relay", "store", "cid", "x"))

    def test_relay_keeps_how_many_are_taken_at_once(self):
        net = Net({"ann": send("c", 4), "bob": loop(2, loop("n", take("c", 2)) + work(1))})
        new = (Draft(net) >> ("relay", "c", "c", "d")).net
        self.assertEqual(str(new.row("bob")), "loop 2 (loop n (take d 2); work 1)")
        self.assertEqual(str(new.row("c")), "forever (take c; send d)")

    def test_relay_of_too_many(self):
        programs = {name: Row() for name in ("cid", "dan", "eva", "fay", "gus", "hal")}
        full = Net({**programs, "ann": send("c"), "bob": take("c")})
        self.refused(full, ("relay", "c", "new", "x"))
        wide = Net({"ann": Row(tuple(("send", "c" + letter, 1) for letter in "abcdefghijkl")), "bob": take("ca")})
        self.refused(wide, ("relay", "ca", "new", "x"))

    def test_kill(self):
        net = Net({"ann": send("d") + loop("n", send("c") + send("c", 3) + take("e")) + take("f", 2) + take("e", 4),
                   "bob": loop("4n", take("c")) + take("d")})
        tail = "loop 0 (send c 3; send d; take e 4; take f 2)"
        for steps, text in [(0, ""), (1, "send d; "), (2, "send d; send c; "), (4, "send d; loop 1 (send c; send c 3; take e); "),
                            (6, "send d; loop 1 (send c; send c 3; take e); send c; send c 3; "),
                            (7, "send d; loop n (send c; send c 3; take e); "),
                            (8, "send d; loop n (send c; send c 3; take e); take f 2; "),
                            (9, "send d; loop n (send c; send c 3; take e); take f 2; take e 4; "),
                            (FAR, "send d; loop n (send c; send c 3; take e); take f 2; take e 4; ")]:
            new = (Draft(net) >> ("kill", "ann", 2, steps)).net
            self.assertEqual(str(new.row("ann")), text + tail)
            self.assertEqual([new.channels, new.stores, new.row("bob")], [net.channels, net.stores, net.row("bob")])
            self.assertEqual(least_possible(new), least_possible(net))
        self.refused(net, ("kill", "cid", 0, 0), ("kill", "c", 0, 0))

    def test_kill_keeps_stores_and_first_messages(self):
        net = sharing()
        new = (Draft(net) >> ("kill", "ann", 0, 0)).net
        self.assertEqual(new.channels_in("store"), ["p", "q", "r"])
        self.assertEqual([new.first("p"), new.first("q"), new.first("s")], [1, 2, 3])
        self.assertEqual(str(new.row("ann")), "loop 0 (send p 2; send q; send r; send s; send t)")

    def test_kill_without_parts_and_of_endless_programs(self):
        net = Net({"ann": work(3), "bob": forever(work(1) + send("c")), "cid": take("c")})
        self.assertEqual(str((Draft(net) >> ("kill", "ann", 0, 0)).net.row("ann")), "loop 0 ()")
        self.assertEqual(str((Draft(net) >> ("kill", "ann", 0, 5)).net.row("ann")), "work 3; loop 0 ()")
        self.assertEqual(str((Draft(net) >> ("kill", "bob", 0, 7)).net.row("bob")),
                         "loop 3 (work 1; send c); work 1; loop 0 (send c)")
        self.assertEqual(str((Draft(net) >> ("kill", "bob", 0, FAR)).net.row("bob")),
                         f"loop {FAR // 2} (work 1; send c); loop 0 (send c)")

    def test_kill_with_too_many_parts(self):
        net = Net({"ann": loop(9, Row((("send", "c", 1),) * 57)), "bob": take("c")})
        # The cut of 60 parts has no room for the loop behind it.
        self.refused(net, ("kill", "ann", 0, 57 + 1), ("kill", "ann", 0, 2 * 57 + 30))
        self.assertEqual((Draft(net) >> ("kill", "ann", 0, 57)).net.row("ann").size, 60)
        whole = Net({"ann": Row((("work", 1),) * 60)})
        self.refused(whole, ("kill", "ann", 0, 60), ("kill", "ann", 0, FAR))
        self.assertEqual((Draft(whole) >> ("kill", "ann", 0, 59)).net.row("ann").size, 60)

    def test_many_changes_by_chance(self):
        done = 0
        for chance in chances(150, 341):
            draft = Draft(chance_net(chance))
            for _ in range(6):
                change = self.chance_change(chance, draft.net)
                self.assertTrue(is_change(change))
                before = draft.net
                try:
                    draft = draft >> change
                    done += 1
                except BadChange as error:
                    self.assertIs(error.value, change)
                    self.assertEqual(draft.net, before)
            self.assertLessEqual(len(draft.changes), 6)
            again = Draft(draft.net)
            self.assertEqual(again.net, draft.net)
        self.assertGreater(done, 200)

    def chance_change(self, chance, net):
        process = chance.choice(net.processes + ("new",))
        channel = chance.choice((net.channels or ("p",)) + ("x",))
        store = chance.choice((net.stores or ("p",)) + ("y",))
        word = chance.choice(("row", "first", "join", "part", "relay", "kill"))
        if word == "row":
            return (word, process, chance_row(chance, ["p", "q", channel], [channel, "r"]).parts)
        if word == "first":
            return (word, channel, chance.randint(0, 3))
        if word == "join":
            names = sorted({channel, *chance.sample("pqrstu", 2)})
            return (word, store, tuple(names))
        if word == "part":
            return (word, store)
        if word == "relay":
            return (word, channel, chance.choice((process, "cid", "zed")), chance.choice((channel, "x", "z")))
        return (word, process, chance.randint(0, 4), chance.randint(0, 9))


class CutTest(Case):
    def test_the_example(self):
        self.assertEqual(str(cut(loop(10 ** 30, send("c") + work(2)), 0, 7)), "loop 3 (send c; work 2); send c")

    def test_of_single_parts(self):
        row = send("c") + work(2) + take("d", 3)
        self.assertEqual([str(cut(row, 0, steps)) for steps in (0, 1, 2, 3, 4, FAR)],
                         ["", "send c", "send c; work 2", str(row), str(row), str(row)])
        self.assertEqual(cut(Row(), 0, 5), Row())

    def test_of_loops(self):
        row = loop("n", work(1) + loop(2, work(2))) + work(3)
        self.assertEqual([str(cut(row, 2, steps)) for steps in range(8)], [
            "", "work 1", "work 1; loop 1 (work 2)", "loop 1 (work 1; loop 2 (work 2))",
            "loop 1 (work 1; loop 2 (work 2)); work 1", "loop 1 (work 1; loop 2 (work 2)); work 1; loop 1 (work 2)",
            "loop n (work 1; loop 2 (work 2))", str(row),
        ])
        self.assertEqual(str(cut(row, 0, 1)), "work 3")

    def test_within_loops_four_deep(self):
        row = loop(FAR, loop(FAR, loop(FAR, loop(FAR, work(1)))))
        self.assertEqual(steps_in_row(row, 0), FAR ** 4)
        self.assertEqual(str(cut(row, 0, FAR)), f"loop 1 (loop {FAR} (work 1))")
        self.assertEqual(str(cut(row, 0, FAR - 1)), f"loop {FAR - 1} (work 1)")
        self.assertEqual(str(cut(row, 0, 1)), "loop 1 (work 1)")
        row = loop(3, loop(3, loop(3, loop(3, work(1)))))
        self.assertEqual(str(cut(row, 0, 80)), "loop 2 (loop 3 (loop 3 (loop 3 (work 1)))); loop 2 (loop 3 (loop 3 (work 1))); "
                                               "loop 2 (loop 3 (work 1)); loop 2 (work 1)")
        self.assertEqual(cut(row, 0, 81), row)

    def test_of_what_does_nothing(self):
        nothing = loop(0, work(1)) + loop("n-5", work(2)) + loop(FAR, loop(0, work(1))) + loop(3, Row())
        self.assertEqual(cut(nothing, 5, FAR), Row())
        self.assertEqual(cut(work(1) + nothing + work(2), 5, 2), work(1) + work(2))
        self.assertEqual(cut(nothing, 6, 1), loop("n-5", work(2)))
        self.assertEqual(cut(forever(nothing), 5, FAR), Row())
        # What is within a loop that stays as it is stays, too.
        row = loop(2, loop(0, work(1)) + work(2))
        self.assertEqual(cut(row, 0, 2), row)
        self.assertEqual(str(cut(row, 0, 1)), "loop 1 (loop 0 (work 1); work 2)")
        self.assertEqual(str(cut(loop(2, loop(0, work(1)) + work(2) + work(3)), 0, 3)),
                         "loop 1 (loop 0 (work 1); work 2; work 3); work 2")

    def test_of_forevers(self):
        row = work(1) + forever(send("c") + loop("n", take("d")))
        self.assertEqual(str(cut(row, 2, 9)), "work 1; loop 2 (send c; loop n (take d)); send c; loop 1 (take d)")
        self.assertEqual(str(cut(row, 2, 4)), "work 1; loop 1 (send c; loop n (take d))")
        self.assertEqual(str(cut(row, 2, 3)), "work 1; send c; loop 1 (take d)")
        self.assertEqual(str(cut(forever(work(1)), 0, FAR)), f"loop {FAR} (work 1)")

    def test_too_many_parts(self):
        parts = (("work", 1),) * 59
        row = loop(3, Row(parts))
        self.assertEqual(cut(row, 0, 59).size, 60)
        whole = (("loop", (0, 1), parts),)
        self.keeps_equal(BadRow, whole + parts[:1], cut, row, 0, 60)
        self.keeps_equal(BadRow, (("loop", (0, 2), parts),) + parts[:58], cut, row, 0, 3 * 59 - 1)

    def test_steps_in_row(self):
        row = send("c", 9) + loop("2n+1", take("d") + loop(3, work(2))) + work(9)
        self.assertEqual([steps_in_row(row, n) for n in (0, 1, FAR)], [6, 14, 2 + 4 * (2 * FAR + 1)])
        self.assertIsNone(steps_in_row(work(1) + forever(work(1)), 0))
        self.assertEqual(steps_in_row(work(1) + forever(loop("n", work(1))), 0), 1)
        self.assertIsNone(steps_in_row(forever(loop("n", work(1))), 1))
        self.assertEqual(steps_in_row(Row(), 0), 0)
        self.assertEqual(steps_in_row(forever(Row()), 0), 0)

    def test_a_cut_program_is_the_beginning_of_the_whole(self):
        for index, chance in enumerate(chances(200, 342)):
            row = chance_row(chance, ["p", "q"], ["r", "s"], 0, 0.3)
            n = chance.randint(0, 4)
            many = steps_in_row(row, n)
            told = []
            for part, _ in walk(row.parts, n):
                told.append(part)
                if len(told) == 60:
                    break
            self.assertTrue(many is None or min(many, 60) == len(told))
            for steps in range(0, len(told) + 1, 1 + index % 3):
                first = cut(row, n, steps)
                self.assertEqual([part for part, _ in walk(first.parts, n)], told[:steps])
                self.assertEqual(steps_in_row(first, n), steps)
                self.assertEqual(cut(first, n, steps), first)
                if many == steps:
                    self.assertEqual(cut(row, n, FAR), first)

    def test_wrong(self):
        self.keeps_all(BadRow, strange_values() + [(("work", 1),)], lambda thing: cut(thing, None, None))
        self.keeps_all(BadNumber, strange_values() + [FAR + 1], lambda thing: cut(Row(), thing, None))
        self.keeps_all(BadNumber, strange_values() + [FAR + 1], lambda thing: cut(Row(), 0, thing))
        self.keeps_all(BadRow, strange_values() + [()], lambda thing: steps_in_row(thing, None))
        self.keeps_all(BadNumber, strange_values() + [FAR + 1], lambda thing: steps_in_row(Row(), thing))


def fates_by_steps(net, n, rooms):
    """The fates in a net without endless loops, by playing each step."""
    end = end_of(begin(net, n, rooms))
    gone = lost(end)
    words = {}
    for process in net.processes:
        word, _ = end.wait(process)
        words[process] = "ended" if word == "ended" else "starved" if process in gone else "stuck"
    return words


class FatesTest(Case):
    def test_all_four_words(self):
        net = Net({"ann": loop(5, send("c")), "bob": take("x"), "cid": forever(send("p")), "dan": forever(take("p")),
                   "eva": work(1), "fay": loop(2, take("c")) + take("y") + send("z"), "gus": take("z")})
        self.assertEqual(fates(net, 0, Rooms({"c": 1, "p": 1, "x": 1, "y": 1, "z": 1})), {
            "ann": "stuck", "bob": "starved", "cid": "moves", "dan": "moves", "eva": "ended", "fay": "starved",
            "gus": "starved",
        })
        self.assertEqual(fates(net, 0, Rooms({"c": 3, "p": None, "x": 1, "y": 1, "z": 1}))["ann"], "ended")

    def test_who_waits_for_messages_of_one_that_is_stuck(self):
        net = Net({"ann": send("c") * 3 + send("d"), "bob": take("c"), "cid": take("d")})
        self.assertEqual(fates(net, 0, Rooms({"c": 1, "d": 1})), {"ann": "stuck", "bob": "ended", "cid": "stuck"})

    def test_by_playing(self):
        for chance in chances(150, 343):
            net = chance_net(chance)
            rooms = chance_rooms(chance, net)
            n = chance.randint(0, 3)
            self.assertEqual(fates(net, n, rooms), fates_by_steps(net, n, rooms))

    def test_of_endless_nets(self):
        for chance in chances(80, 344):
            net = chance_net(chance, 0.5)
            rooms = chance_rooms(chance, net)
            try:
                far = run(net, 2, rooms)
            except TooLong:
                continue
            for process, word in fates(net, 2, rooms).items():
                self.assertEqual(word == "moves", process in far.movers)
                if word == "ended":
                    self.assertEqual(far.state(process), "ended")
                if word == "starved":
                    self.assertEqual((far.state(process), process in far.lost), ("empty", True))
                if word == "stuck":
                    self.assertIn(far.state(process), ("empty", "full"))
                    self.assertNotIn(process, far.lost)

    def test_the_dict_is_new(self):
        net = meeting()
        one = fates(net, 1, Rooms({"c": 1, "d": 1}))
        one.clear()
        self.assertEqual(fates(net, 1, Rooms({"c": 1, "d": 1})), {"ann": "ended", "bob": "ended"})

    def test_wrong(self):
        net = meeting()
        rooms = Rooms({"c": 1, "d": 1})
        self.keeps_all(BadNet, strange_values(), lambda thing: fates(thing, None, None))
        self.keeps_all(BadNumber, strange_values() + [FAR + 1], lambda thing: fates(net, thing, None))
        self.keeps_all(BadRooms, strange_values() + [Rooms({})], lambda thing: fates(net, 0, thing))
        self.keeps_equal(Small, "d", fates, net, 0, Rooms({"c": 1, "d": 0}))
        self.assertEqual(fates(net, 0, rooms), {"ann": "ended", "bob": "ended"})


class FatesAfterTest(Case):
    def test_the_example(self):
        self.assertEqual(fates_after(meeting(), 5, Rooms({"c": 4, "d": 1}), "bob", 0), {"ann": "stuck", "bob": "ended"})

    def test_ordinary(self):
        net = meeting()
        rooms = Rooms({"c": 5, "d": 1})
        self.assertEqual(fates_after(net, 5, rooms, "bob", 0), {"ann": "ended", "bob": "ended"})
        for steps in range(6):
            self.assertEqual(fates_after(net, 5, rooms, "ann", steps), {"ann": "ended", "bob": "starved"})
        for steps in (6, 7, FAR):
            self.assertEqual(fates_after(net, 5, rooms, "ann", steps), {"ann": "ended", "bob": "ended"})
        endless = Net({"ann": forever(send("c")), "bob": forever(take("c"))})
        self.assertEqual(fates_after(endless, 0, Rooms({"c": 1}), "bob", FAR), {"ann": "stuck", "bob": "ended"})
        self.assertEqual(fates_after(endless, 0, Rooms({"c": 1}), "ann", 10 ** 20), {"ann": "ended", "bob": "starved"})
        self.assertEqual(fates_after(endless, 0, Rooms({"c": None}), "bob", 5), {"ann": "moves", "bob": "ended"})

    def test_it_is_the_net_behind_a_kill(self):
        for chance in chances(60, 345):
            net = chance_net(chance)
            rooms = chance_rooms(chance, net)
            n, steps = chance.randint(0, 3), chance.randint(0, 8)
            process = chance.choice(net.processes)
            new = (Draft(net) >> ("kill", process, n, steps)).net
            self.assertEqual(fates_after(net, n, rooms, process, steps), fates(new, n, rooms))
            self.assertEqual(fates_by_steps(new, n, rooms), fates(new, n, rooms))

    def test_too_many_parts(self):
        net = Net({"ann": Row((("work", 1),) * 60)})
        self.keeps_equal(BadChange, ("kill", "ann", 3, 60), fates_after, net, 3, Rooms({}), "ann", 60)
        self.assertEqual(fates_after(net, 3, Rooms({}), "ann", 59), {"ann": "ended"})

    def test_wrong(self):
        net = meeting()
        rooms = Rooms({"c": 1, "d": 1})
        self.keeps_all(BadNet, strange_values(), lambda thing: fates_after(thing, None, None, None, None))
        self.keeps_all(BadNumber, strange_values() + [FAR + 1], lambda thing: fates_after(net, thing, None, None, None))
        self.keeps_all(BadRooms, strange_values(), lambda thing: fates_after(net, 0, thing, None, None))
        self.keeps_equal(Small, "c", fates_after, net, 0, Rooms({"c": 0, "d": 1}), None, None)
        self.keeps_all(NoProcess, strange_values() + ["cid", "c"], lambda thing: fates_after(net, 0, rooms, thing, None))
        self.keeps_all(BadNumber, strange_values() + [FAR + 1], lambda thing: fates_after(net, 0, rooms, "ann", thing))


class DifferenceTest(Case):
    def test_ordinary(self):
        net = Net({"ann": loop(5, send("c")) + loop(3, take("d")), "bob": loop(3, send("d")) + loop(5, take("c"))})
        other = Net({"ann": loop(5, send("c")) + loop(2, take("d")), "bob": loop(2, send("d")) + loop(5, take("c"))})
        told = [[[room for _, room in rooms.pairs()] for rooms in kind] for kind in difference(net, other, 0)]
        self.assertEqual(told, [[[5, 1]], [[1, 3]], [[1, 2]]])
        self.assertEqual(difference(net, net, 0), [least_rooms(net, 0), [], []])
        found = difference(net, other, 0)
        found[0].clear()
        self.assertEqual(len(difference(net, other, 0)[0]), 1)

    def test_by_chance(self):
        for chance in chances(40, 346):
            net = crossing_net(chance)
            process = chance.choice(net.processes)
            other = (Draft(net) >> ("kill", process, 2, chance.randint(0, 12))).net
            try:
                one, further = least_rooms(net, 2), least_rooms(other, 2)
            except (TooMany, TooLong):
                continue
            both, alone, apart = difference(net, other, 2)
            self.assertEqual(both, [rooms for rooms in one if rooms in further])
            self.assertEqual(alone, [rooms for rooms in one if rooms not in further])
            self.assertEqual(apart, [rooms for rooms in further if rooms not in one])

    def test_wrong(self):
        net = meeting()
        self.keeps_all(BadNet, strange_values(), lambda thing: difference(thing, None, None))
        others = [Net({"ann": send("c"), "bob": take("c")}), Net({"ann": work(1)}),
                  Net({"ann": send("c") + send("d"), "bob": take("c") + take("d")}, None, {"s": ("c", "d")})]
        self.keeps_all(BadNet, strange_values() + others, lambda thing: difference(net, thing, None))
        self.keeps_all(BadNumber, strange_values() + [FAR + 1], lambda thing: difference(net, meeting(), thing))

    def test_other_programs_with_the_same_stores(self):
        other = Net({"cid": send("c") + send("d"), "dan": take("d")})
        self.assertEqual(difference(meeting(), other, 4)[2], [Rooms({"c": 1, "d": 1})])
        self.assertEqual(without_limit(meeting()).stores, other.stores)


if __name__ == "__main__":
    unittest.main()

"""[40]: questions to desks, and when the answer is yes."""

import unittest

from leastrooms.changes import fates
from leastrooms.desks import Desk
from leastrooms.errors import BadChange, BadEvent, BadEvents, BadQuestion, BadRooms, NoStore, Small
from leastrooms.nets import Net
from leastrooms.questions import Ends, Enough, Holds, Question, when
from leastrooms.rooms import Rooms, least_possible
from leastrooms.rows import forever, loop, send, take, work
from tests.helping import Case, Strange, chance_net, chances, strange_values

MOST = 10 ** 200


def meeting():
    return Net({"ann": loop("n", send("c")) + send("d"), "bob": take("d") + loop("n", take("c"))})


def desk_of(n=5, c=1, d=1):
    return Desk(meeting(), n, Rooms({"c": c, "d": d}))


class QuestionTest(Case):
    def test_classes(self):
        for one in [Enough(), Holds("c", 1), Ends("ann", "ended"), ~Enough(), Enough() & Question(), Enough() | Question()]:
            self.assertIsInstance(one, Question)
        for cls in (Question, Enough, Holds, Ends):
            for name in ("__call__", "__and__", "__or__", "__invert__"):
                self.assertIn(name, vars(cls))
            self.assertEqual(cls.__module__, "leastrooms.questions")

    def test_always(self):
        self.assertIs(Question()(desk_of()), True)
        self.assertIs((~Question())(desk_of()), False)

    def test_enough(self):
        self.assertIs(Enough()(desk_of()), False)
        self.assertIs(Enough()(desk_of(c=5)), True)
        self.assertIs(Enough()(desk_of(n=1)), True)

    def test_holds(self):
        for room, k, answer in [(5, 5, True), (5, 6, False), (5, 0, True), (MOST, MOST, True), (5, None, False), (None, None, True),
                                (None, MOST, True), (None, 0, True), (MOST, None, False)]:
            self.assertIs(Holds("c", k)(desk_of(c=room)), answer)
        for store in strange_values() + ["x", "ann", Strange()]:
            self.assertIs(Holds(store, 0)(desk_of()), False)
        wrong = [value for value in strange_values() if value is not None] + [MOST + 1, -1, True, 1.0]
        self.keeps_all(BadRooms, wrong, lambda thing: Holds("c", thing))
        self.keeps_all(BadRooms, wrong, lambda thing: Holds(None, thing))

    def test_ends(self):
        desk = desk_of()
        for process, fate, answer in [("ann", "stuck", True), ("bob", "stuck", True), ("ann", "ended", False), ("cid", "ended", False),
                                      ("cid", None, False), ("ann", "", False)]:
            self.assertIs(Ends(process, fate)(desk), answer)
        for thing in strange_values():
            self.assertIs(Ends(thing, "stuck")(desk), False)
            self.assertIs(Ends("ann", thing)(desk), False)
        net = Net({"ann": forever(send("c")), "bob": forever(take("c")), "cid": take("x"), "dan": work(1), "eva": send("z") * 2})
        desk = Desk(net, 0, least_possible(net))
        for process, fate in [("ann", "moves"), ("bob", "moves"), ("cid", "starved"), ("dan", "ended"), ("eva", "stuck")]:
            for word in ("moves", "starved", "ended", "stuck"):
                self.assertIs(Ends(process, word)(desk), word == fate)

    def test_signs(self):
        desk = desk_of()
        yes, no = Question(), ~Question()
        for one, is_one in ((yes, True), (no, False)):
            self.assertIs((~one)(desk), not is_one)
            for other, is_other in ((yes, True), (no, False)):
                self.assertIs((one & other)(desk), is_one and is_other)
                self.assertIs((one | other)(desk), is_one or is_other)

    def test_signs_of_all_classes(self):
        desk = desk_of(c=5)
        for one, answer in [(Question(), True), (Enough(), True), (Holds("c", 6), False), (Ends("ann", "ended"), True),
                            (Enough() & Holds("c", 5), True), (~Enough(), False), (Holds("c", 9) | Holds("d", 9), False)]:
            self.assertIs(one(desk), answer)
            self.assertIs((~one)(desk), not answer)
            self.assertIs((one & Enough())(desk), answer)
            self.assertIs((one | ~Enough())(desk), answer)
            self.assertIs((Enough() & one)(desk), answer)
            self.assertIs((~Enough() | one)(desk), answer)

    def test_several_deep(self):
        question = Question()
        answer = True
        for index in range(60):
            question = [lambda: ~question, lambda: question & Enough(), lambda: question | Holds("c", 9)][index % 3]()
            answer = [not answer, answer and True, answer or False][index % 3]
        self.assertIs(question(desk_of(c=5)), answer)
        lawful = ~(Enough() & Holds("c", 5)) & (~Enough() | ~Holds("c", 5))
        self.assertIs(lawful(desk_of(c=5)), False)
        self.assertIs(lawful(desk_of(c=6, n=9)), True)

    def test_operands_that_are_none(self):
        for one in [Question(), Enough(), Holds("c", 1), Ends("ann", "ended"), ~Enough(), Enough() & Enough(), Enough() | Enough()]:
            for thing in strange_values() + [desk_of(), Question, True]:
                for call in (lambda: one & thing, lambda: one | thing):
                    self.keeps(BadQuestion, thing, call)

    def test_questions_stay_as_they_are(self):
        one = Enough()
        both = one & Holds("c", 9)
        self.assertIs(one(desk_of(c=5)), True)
        self.assertIs(both(desk_of(c=5)), False)


class WhenTest(Case):
    def test_ordinary(self):
        desk = desk_of()
        events = [("room", "c", 5), ("n", 6), ("undo",), ("room", "c", 4), ("undo",), ("undo",)]
        self.assertEqual(when(Enough(), desk, events), [1, 3, 5])
        self.assertEqual(when(~Enough(), desk, tuple(events)), [0, 2, 4, 6])
        self.assertEqual(when(Question(), desk, events), list(range(7)))
        self.assertEqual(when(Holds("c", 5) & ~Enough(), desk, events), [2])
        self.assertEqual(when(Ends("bob", "ended"), desk, events), [1, 3, 5])
        self.assertEqual([desk.events, desk.rooms, desk.n], [[], Rooms({"c": 1, "d": 1}), 5])

    def test_without_events(self):
        self.assertEqual(when(Enough(), desk_of(), []), [])
        self.assertEqual(when(Enough(), desk_of(c=5), ()), [0])

    def test_changes(self):
        events = [("change", ("relay", "c", "cid", "x")), ("room", "x", 5), ("undo",), ("undo",)]
        self.assertEqual(when(Holds("x", 1), desk_of(), events), [1, 2, 3])
        self.assertEqual(when(Ends("cid", "moves"), desk_of(c=5), events), [])
        self.assertEqual(when(Ends("cid", "starved"), desk_of(), events), [2])

    def test_undo_takes_back_what_the_desk_had_done(self):
        desk = desk_of()
        desk.do(("room", "c", 5))
        self.assertEqual(when(Enough(), desk, [("undo",), ("room", "c", 6)]), [0, 2])
        self.assertEqual(desk.events, [("room", "c", 5)])

    def test_exceptions_come_through(self):
        desk = desk_of()
        right = [("n", 3), ("room", "c", 3)]
        for error, event, value in [(BadEvent, None, None), (NoStore, ("room", "x", 1), "x"), (Small, ("room", "c", 0), "c"),
                                    (BadChange, ("change", 5), 5), (BadEvent, ("n", -1), ("n", -1))]:
            for at in range(3):
                self.keeps_equal(error, value, when, Enough(), desk, right[:at] + [event] + right[at:])
        event = ("undo",)
        self.keeps(BadEvent, event, when, Enough(), desk, [("n", 3), ("undo",), event])
        self.assertEqual([desk.events, desk.n], [[], 5])

    def test_wrong(self):
        desk = desk_of()
        self.keeps_all(BadQuestion, strange_values() + [Enough, True], lambda thing: when(thing, desk, None))
        values = [value for value in strange_values() if not isinstance(value, (list, tuple))]
        self.keeps_all(BadEvents, values + [{("n", 3): 1}], lambda thing: when(Enough(), desk, thing))

    def test_by_chance(self):
        for chance in chances(40, 401):
            net = chance_net(chance)
            desk = Desk(net, 1, least_possible(net))
            events = []
            for _ in range(5):
                store = chance.choice(net.stores) if net.stores else None
                events.append(("n", chance.randint(0, 3)) if store is None or chance.random() < 0.4
                              else ("room", store, net.least_room(store) + chance.randint(0, 3)))
            process = chance.choice(net.processes)
            told = {"works": [], "ended": []}
            other = Desk(net, 1, least_possible(net))
            for number in range(6):
                if other.works():
                    told["works"].append(number)
                if fates(net, other.n, other.rooms)[process] == "ended":
                    told["ended"].append(number)
                if number < 5:
                    other.do(events[number])
            self.assertEqual(when(Enough(), desk, events), told["works"])
            self.assertEqual(when(Ends(process, "ended"), desk, events), told["ended"])
            self.assertEqual(when(Enough() & Ends(process, "ended"), desk, events),
                             [number for number in told["works"] if number in told["ended"]])


if __name__ == "__main__":
    unittest.main()

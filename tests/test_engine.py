"""[36], [37] and [4] (i): engines, trials of them, and records."""

import unittest

from leastrooms.changes import fates
from leastrooms.engine import Engine, judge_record, tried
from leastrooms.errors import (
    BadGroup, BadNet, BadNumber, BadRooms, BadSeeds, BadValue, NoChannel, NoProcess, Refused, Small, TooLong,
)
from leastrooms.growing import Policy, grow
from leastrooms.moments import begin
from leastrooms.nets import Net
from leastrooms.rooms import Rooms, least_possible
from leastrooms.rows import Row, forever, loop, send, take, work
from tests.helping import Case, Strange, chance_net, chance_rooms, chances, strange_values

FAR = 10 ** 30
MOST_VALUE = 10 ** 15


def pair():
    return Net({"ann": send("c", 2) + work(5), "bob": take("c")}, {"c": 1})


def begun(seeds=None, fold=None):
    return Engine(pair(), 0, Rooms({"c": 3}), seeds, fold)


def endless():
    return Engine(Net({"ann": forever(send("c")), "bob": forever(take("c"))}), 0, Rooms({"c": 2}))


def state_of(engine):
    """All that an engine tells."""
    net = engine.moment.net
    return (engine.moment, [engine.held(process) for process in net.processes], engine.log,
            [engine.stream(channel) for channel in net.channels], [engine.waiting(channel) for channel in net.channels])


def folding(held, value):
    return (held * 7 + value) % 1009


class Counting:
    """A fold that returns no value at one call."""

    def __init__(self, at, wrong):
        self.left = at
        self.wrong = wrong

    def __call__(self, held, value):
        self.left -= 1
        return self.wrong if self.left == 0 else held + value


class Model:
    """What the document says of values, told once more."""

    def __init__(self, net, seeds, fold):
        self.net = net
        self.held = {process: seeds.get(process, 0) for process in net.processes}
        self.streams = {channel: list(range(1, net.first(channel) + 1)) for channel in net.channels}
        self.taken = dict.fromkeys(net.channels, 0)
        self.fold = fold or (lambda held, value: (held * 31 + value) % 1000003)

    def do(self, process, part):
        if part[0] == "work":
            self.held[process] = self.fold(self.held[process], part[1])
            return (process, "work", part[1], ())
        values = []
        for _ in range(part[2]):
            if part[0] == "send":
                values.append(self.held[process])
                self.streams[part[1]].append(self.held[process])
                self.held[process] = self.fold(self.held[process], 1)
            else:
                values.append(self.streams[part[1]][self.taken[part[1]]])
                self.taken[part[1]] += 1
                self.held[process] = self.fold(self.held[process], values[-1])
        return (process, part[0], part[1], tuple(values))


class EngineTest(Case):
    def test_the_example(self):
        engine = begun({"ann": 4})
        entries = tried(engine, ["bob", "ann"])
        first = [entries, engine.stream("c"), engine.waiting("c"), engine.held("ann"), engine.play(), engine.log[2]]
        self.assertEqual(first, [[("bob", "take", "c", (1,)), ("ann", "send", "c", (4, 125))], [1, 4, 125], [4, 125], 3876,
                                 1, ("ann", "work", 5, ())])
        self.assertEqual(judge_record(begun(), entries), (1, "other"))

    def test_beginning(self):
        engine = begun()
        self.assertEqual(state_of(engine), (begin(pair(), 0, Rooms({"c": 3})), [0, 0], [], [[1]], [[1]]))
        net = Net({"ann": send("c") + send("d", 3), "bob": take("c")}, {"c": 4, "d": 2})
        engine = Engine(net, 0, Rooms({"c": 5, "d": 5}), {"bob": 7})
        self.assertEqual([engine.stream("c"), engine.stream("d")], [[1, 2, 3, 4], [1, 2]])
        self.assertEqual([engine.held("ann"), engine.held("bob")], [0, 7])

    def test_seeds(self):
        for seeds in [{}, {"ann": 0}, {"bob": MOST_VALUE}, {"bob": 1, "ann": 2}]:
            engine = begun(seeds)
            self.assertEqual(engine.held("ann"), seeds.get("ann", 0))
            self.assertEqual(engine.held("bob"), seeds.get("bob", 0))
        seeds = {"ann": 1}
        engine = begun(seeds)
        seeds["ann"] = 2
        self.assertEqual(engine.held("ann"), 1)

    def test_steps_fold_values(self):
        engine = Engine(Net({"ann": work(9) + send("c", 3), "bob": take("c", 2) + take("c")}), 0, Rooms({"c": 3}), {"ann": 5})
        self.assertEqual(engine.step("ann"), ("ann", "work", 9, ()))
        one = 5 * 31 + 9
        two = (one * 31 + 1) % 1000003
        three = (two * 31 + 1) % 1000003
        self.assertEqual(engine.held("ann"), one)
        self.assertEqual(engine.step("ann"), ("ann", "send", "c", (one, two, three)))
        self.assertEqual(engine.held("ann"), (three * 31 + 1) % 1000003)
        self.assertEqual(engine.step("bob"), ("bob", "take", "c", (one, two)))
        self.assertEqual(engine.held("bob"), (one * 31 + two) % 1000003)
        self.assertEqual(engine.waiting("c"), [three])
        self.assertEqual(engine.stream("c"), [one, two, three])
        self.assertEqual(engine.step("bob"), ("bob", "take", "c", (three,)))
        self.assertEqual(engine.waiting("c"), [])
        self.assertEqual(engine.moment.can(), [])

    def test_a_function_of_ones_own(self):
        engine = begun({"ann": 3, "bob": 5}, lambda held, value: held * 10 + value)
        engine.play()
        self.assertEqual([engine.held("ann"), engine.held("bob"), engine.stream("c")], [3115, 51, [1, 3, 31]])
        engine = begun({"ann": MOST_VALUE}, lambda held, value: held)
        engine.play()
        self.assertEqual(engine.stream("c"), [1, MOST_VALUE, MOST_VALUE])

    def test_refused(self):
        engine = begun()
        for _ in range(2):
            engine.step("ann")
        before = state_of(engine)
        error = self.fails(Refused, engine.step, "ann")
        self.assertEqual((error.word, error.value), ("ended", None))
        engine.step("bob")
        tight = Engine(pair(), 0, Rooms({"c": 2}))
        error = self.fails(Refused, tight.step, "ann")
        self.assertEqual((error.word, error.value), ("full", "c"))
        self.assertEqual(before[2], engine.log[:2])
        empty = Engine(Net({"ann": send("c"), "bob": take("c")}), 0, Rooms({"c": 1}))
        error = self.fails(Refused, empty.step, "bob")
        self.assertEqual((error.word, error.value), ("empty", "c"))
        self.assertEqual(empty.log, [])

    def test_what_is_returned_is_new(self):
        engine = begun()
        for told in (engine.log, engine.stream("c"), engine.waiting("c"), tried(engine, [])):
            told.append(1)
        self.assertEqual(state_of(engine), state_of(begun()))

    def test_rounds_that_do_nothing_are_passed_over(self):
        net = Net({"ann": loop(0, work(1)) + loop("n", loop("n", send("c"))) + forever(loop("n", work(1))),
                   "bob": take("c") + work(3)})
        engine = Engine(net, 0, Rooms({"c": 1}))
        self.assertEqual(engine.moment.place("ann"), ())
        self.assertEqual(engine.play(), 0)
        engine = Engine(net, 2, Rooms({"c": 9}))
        self.assertEqual(engine.play(most=20), 20)
        self.assertEqual(engine.stream("c"), [0, 1, 32, 993])

    def test_wrong(self):
        net = pair()
        rooms = Rooms({"c": 3})
        self.keeps_all(BadNet, strange_values(), lambda thing: Engine(thing, None, None, 5))
        self.keeps_all(BadNumber, strange_values() + [FAR + 1], lambda thing: Engine(net, thing, None, 5))
        self.keeps_all(BadRooms, strange_values() + [Rooms({"d": 1})], lambda thing: Engine(net, 0, thing, 5))
        self.keeps_equal(Small, "c", Engine, net, 0, Rooms({"c": 1}), 5)
        wrong = [{"cid": 1}, {"c": 1}, {1: 1}, {"ann": -1}, {"ann": MOST_VALUE + 1}, {"ann": True}, {"ann": 1.0},
                 {"ann": None}, {"ann": 1, "bob": "1"}, {"ann": Strange()}, [("ann", 1)], (("ann", 1),)]
        values = [value for value in strange_values() if value is not None and value not in ({},)]
        self.keeps_all(BadSeeds, values + wrong, lambda thing: Engine(net, 0, rooms, thing))
        engine = begun()
        self.keeps_all(NoProcess, strange_values() + ["cid", "c"], engine.step)
        self.keeps_all(NoProcess, strange_values() + ["cid", "c"], engine.held)
        self.keeps_all(NoChannel, strange_values() + ["ann", "d"], engine.stream)
        self.keeps_all(NoChannel, strange_values() + ["ann", "d"], engine.waiting)
        self.assertEqual(state_of(engine), state_of(begun()))

    def test_with_rooms_that_have_grown_nobody_waits_for_room(self):
        for chance in chances(40, 281):
            net = chance_net(chance)
            try:
                rooms = grow(net, 2, least_possible(net), Policy()).rooms
            except TooLong:
                continue
            engine = Engine(net, 2, rooms)
            if engine.play(None, 10000) < 10000:
                self.assertNotIn("full", [engine.moment.wait(process)[0] for process in net.processes])
            self.assertEqual([engine.moment.wait(process)[0] == "ended" for process in net.processes],
                             [fate == "ended" for fate in fates(net, 2, rooms).values()])

    def test_no_order_tells_other_values(self):
        for index, chance in enumerate(chances(120, 361)):
            net = chance_net(chance)
            rooms = chance_rooms(chance, net)
            n = chance.randint(0, 3)
            seeds = {process: chance.randint(0, 99) for process in net.processes if chance.random() < 0.5}
            fold = (None, folding)[index % 2]
            one, other = Engine(net, n, rooms, seeds, fold), Engine(net, n, rooms, seeds, fold)
            model = Model(net, seeds, fold)
            for _ in range(300):
                ready = one.moment.can()
                if not ready:
                    break
                process = chance.choice(ready)
                part = one.moment.next_part(process)
                self.assertEqual(one.step(process), model.do(process, part))
            order = list(net.processes)
            chance.shuffle(order)
            many = other.play(order)
            if len(one.log) < 300:
                self.assertEqual(many, len(one.log))
                self.assertEqual(one.moment, other.moment)
                self.assertEqual(sorted(one.log), sorted(other.log))
                for process in net.processes:
                    self.assertEqual(one.held(process), other.held(process))
                    self.assertEqual([entry for entry in one.log if entry[0] == process],
                                     [entry for entry in other.log if entry[0] == process])
                for channel in net.channels:
                    self.assertEqual(one.stream(channel), other.stream(channel))
            for process in net.processes:
                self.assertEqual(one.held(process), model.held[process])
            for channel in net.channels:
                self.assertEqual(one.stream(channel), model.streams[channel])
                self.assertEqual(one.waiting(channel), model.streams[channel][model.taken[channel]:])
                self.assertEqual(len(one.waiting(channel)), one.moment.level(channel))


class BadValueTest(Case):
    def test_any_value_that_is_none(self):
        wrong = strange_values() + [MOST_VALUE + 1, -1, True, 1.0, "1"]
        for value in wrong:
            engine = begun(None, lambda held, got: value)
            before = state_of(engine)
            for call in (lambda: engine.step("ann"), lambda: engine.step("bob"), engine.play,
                         lambda: tried(engine, ["ann"]), lambda: judge_record(engine, [("ann", 1, 2, 3)])):
                self.keeps(BadValue, value, call)
                self.assertEqual(state_of(engine), before)

    def test_at_each_call_of_a_step(self):
        net = Net({"ann": send("c", 9), "bob": take("c", 9)})
        for at in (1, 5, 9):
            engine = Engine(net, 0, Rooms({"c": 9}), None, Counting(at, "no"))
            self.keeps(BadValue, "no", engine.step, "ann")
            self.assertEqual([engine.log, engine.stream("c"), engine.held("ann")], [[], [], 0])
            self.assertEqual(engine.step("ann")[3], tuple(range(9)))
            engine = Engine(net, 0, Rooms({"c": 9}), None, Counting(9 + at, "no"))
            engine.step("ann")
            self.keeps(BadValue, "no", engine.step, "bob")
            self.assertEqual([len(engine.log), engine.waiting("c"), engine.held("bob")], [1, list(range(9)), 0])
            self.assertEqual(engine.step("bob")[3], tuple(range(9)))

    def test_at_each_call_of_a_play(self):
        # Four calls: one for what bob takes, two for what ann sends, one for her work.
        for at in (1, 2, 3, 4):
            engine = begun(None, Counting(at, None))
            before = state_of(engine)
            self.keeps(BadValue, None, engine.play)
            self.assertEqual(state_of(engine), before)
            self.assertEqual(engine.play(), 3)
        self.assertEqual(begun(None, Counting(5, None)).play(), 3)

    def test_other_exceptions_do_nothing_either(self):
        def broken(held, value):
            raise ZeroDivisionError("broken")
        engine = begun(None, broken)
        before = state_of(engine)
        for call in (lambda: engine.step("ann"), engine.play, lambda: tried(engine, ["bob"])):
            with self.assertRaises(ZeroDivisionError):
                call()
            self.assertEqual(state_of(engine), before)


class PlayTest(Case):
    def test_turn_by_turn(self):
        engine = endless()
        self.assertEqual(engine.play(most=5), 5)
        self.assertEqual([entry[0] for entry in engine.log], ["ann", "bob", "ann", "bob", "ann"])
        engine = endless()
        self.assertEqual(engine.play(("bob", "ann"), 5), 5)
        self.assertEqual([entry[0] for entry in engine.log], ["ann", "bob", "ann", "bob", "ann"])
        engine = Engine(Net({"ann": send("c") * 3, "bob": take("c") * 3}), 0, Rooms({"c": 2}))
        self.assertEqual(engine.play(["bob", "ann"]), 6)
        self.assertEqual([entry[0] for entry in engine.log], ["ann", "bob", "ann", "bob", "ann", "bob"])

    def test_whether_it_can_is_asked_when_its_turn_comes(self):
        # With room for one, bob can take as soon as ann has sent, within the same round.
        engine = Engine(Net({"ann": send("c") + work(1), "bob": take("c") + work(2)}), 0, Rooms({"c": 1}))
        engine.play()
        self.assertEqual([entry[:2] for entry in engine.log],
                         [("ann", "send"), ("bob", "take"), ("ann", "work"), ("bob", "work")])

    def test_most(self):
        for most in (0, 1, 1000, 10000):
            engine = endless()
            self.assertEqual(engine.play(None, most), most)
            self.assertEqual(len(engine.log), most)
        self.assertEqual(endless().play(), 1000)
        self.assertEqual(begun().play(None, 2), 2)
        self.assertEqual(begun().play(None, 10000), 3)

    def test_what_can_do_nothing(self):
        engine = Engine(Net({"ann": take("c")}), 0, Rooms({"c": 1}))
        self.assertEqual(engine.play(), 0)
        engine = Engine(Net({"ann": Row()}), 0, Rooms({}))
        self.assertEqual(engine.play(), 0)

    def test_wrong(self):
        engine = begun()
        before = state_of(engine)
        orders = [["ann"], ["ann", "ann"], ["ann", "bob", "bob"], ["ann", "cid"], ("ann", "bob", "cid"), [], (), "ann",
                  {"ann": 1, "bob": 2}, ["ann", ["bob"]], [1, 2], ("ann", Strange()), ["ann", None]]
        values = [value for value in strange_values() if value is not None]
        self.keeps_all(BadGroup, values + orders, lambda thing: engine.play(thing, -1))
        self.keeps_all(BadNumber, strange_values() + [10001], lambda thing: engine.play(None, thing))
        self.keeps_all(BadNumber, [-1, True, 1.0], lambda thing: engine.play(("bob", "ann"), thing))
        self.assertEqual(state_of(engine), before)


class CopyTest(Case):
    def test_both_go_on_by_themselves(self):
        engine = begun({"ann": 4})
        engine.step("bob")
        other = engine.copy()
        self.assertIsInstance(other, Engine)
        self.assertEqual(state_of(other), state_of(engine))
        before = state_of(engine)
        other.step("ann")
        self.assertEqual(state_of(engine), before)
        third = other.copy()
        engine.step("ann")
        engine.step("ann")
        self.assertEqual([len(engine.log), len(other.log), len(third.log)], [3, 2, 2])
        self.assertEqual(state_of(third), state_of(other))
        third.step("ann")
        self.assertEqual(state_of(third), state_of(engine))
        self.assertEqual(len(other.log), 2)

    def test_it_folds_alike(self):
        engine = begun({"ann": 3}, folding)
        other = engine.copy()
        engine.play()
        other.play()
        self.assertEqual(state_of(engine), state_of(other))


class TrialTest(Case):
    def test_kept(self):
        engine = begun()
        with engine.trial() as worker:
            self.assertIsInstance(worker, Engine)
            self.assertIs(worker.keep, True)
            worker.step("ann")
            self.assertEqual(engine.log, [])
            worker.step("bob")
        self.assertEqual(state_of(engine), state_of(worker))
        self.assertEqual(len(engine.log), 2)

    def test_set_to_none(self):
        engine = begun()
        with engine.trial() as worker:
            worker.step("ann")
            worker.keep = None
        self.assertEqual(state_of(engine), state_of(begun()))
        self.assertEqual(len(worker.log), 1)

    def test_only_none_tells_so(self):
        for value in (False, 0, "", [], True):
            engine = begun()
            with engine.trial() as worker:
                worker.step("ann")
                worker.keep = value
            self.assertEqual(len(engine.log), 1)

    def test_keep_of_the_engine_means_nothing(self):
        engine = begun()
        engine.keep = None
        with engine.trial() as worker:
            self.assertIs(worker.keep, True)
            worker.step("ann")
        self.assertEqual(len(engine.log), 1)

    def test_an_exception_within(self):
        engine = begun()
        with self.assertRaises(Refused):
            with engine.trial() as worker:
                worker.step("ann")
                worker.step("ann")
                worker.step("ann")
        self.assertEqual(state_of(engine), state_of(begun()))
        with self.assertRaises(KeyboardInterrupt):
            with engine.trial() as worker:
                worker.step("ann")
                raise KeyboardInterrupt()
        self.assertEqual(state_of(engine), state_of(begun()))
        self.assertEqual(len(worker.log), 1)

    def test_later_steps_are_ones_own(self):
        engine = begun()
        with engine.trial() as worker:
            worker.step("ann")
        worker.step("ann")
        self.assertEqual([len(engine.log), len(worker.log)], [1, 2])
        engine.step("bob")
        self.assertEqual([entry[0] for entry in engine.log], ["ann", "bob"])
        self.assertEqual([entry[0] for entry in worker.log], ["ann", "ann"])
        self.assertEqual([engine.waiting("c"), worker.waiting("c")], [[0, 1], [1, 0, 1]])

    def test_the_engine_goes_on_within(self):
        engine = begun()
        with engine.trial() as worker:
            engine.step("bob")
            worker.step("ann")
        self.assertEqual([entry[0] for entry in engine.log], ["ann"])
        self.assertEqual(engine.waiting("c"), [1, 0, 1])

    def test_within_each_other(self):
        engine = begun()
        with engine.trial() as worker:
            worker.step("ann")
            with worker.trial() as inner:
                inner.step("bob")
            with worker.trial() as inner:
                inner.step("ann")
                inner.keep = None
        self.assertEqual([entry[0] for entry in engine.log], ["ann", "bob"])

    def test_again(self):
        engine = begun()
        for process in ("ann", "bob", "ann"):
            with engine.trial() as worker:
                worker.step(process)
        self.assertEqual(len(engine.log), 3)


class TriedTest(Case):
    def test_ordinary(self):
        for processes in (["bob", "ann"], ("bob", "ann")):
            engine = begun({"ann": 4})
            self.assertEqual(tried(engine, processes), [("bob", "take", "c", (1,)), ("ann", "send", "c", (4, 125))])
            self.assertEqual(len(engine.log), 2)
        self.assertEqual(tried(engine, []), [])

    def test_not_kept(self):
        engine = begun()
        for keep in (False, 0, None, "", [], ()):
            self.assertEqual(tried(engine, ["ann", "ann"], keep), [("ann", "send", "c", (0, 1)), ("ann", "work", 5, ())])
            self.assertEqual(engine.log, [])
        for keep in (1, "no", [0], object(), True):
            engine = begun()
            tried(engine, ["ann"], keep)
            self.assertEqual(len(engine.log), 1)

    def test_whatever_is_raised(self):
        engine = begun()
        before = state_of(engine)
        error = self.fails(Refused, tried, engine, ["ann", "ann", "ann"])
        self.assertEqual((error.word, error.value), ("ended", None))
        self.keeps(NoProcess, "cid", tried, engine, ["ann", "cid"])
        with self.assertRaises(AssertionError):
            tried(engine, ["ann"], Strange())
        self.assertEqual(state_of(engine), before)


class JudgeRecordTest(Case):
    def setUp(self):
        self.engine = begun({"ann": 4})
        self.record = [("bob", "take", "c", (1,)), ("ann", "send", "c", (4, 125)), ("ann", "work", 5, ())]

    def test_right(self):
        for many in range(4):
            self.assertIsNone(judge_record(self.engine, self.record[:many]))
        self.assertIsNone(judge_record(self.engine, [self.record[1], self.record[2], self.record[0]]))
        self.assertEqual(self.engine.log, [])
        self.engine.step("bob")
        self.assertIsNone(judge_record(self.engine, self.record[1:]))

    def test_no_list(self):
        values = [value for value in strange_values() if not isinstance(value, list)]
        for thing in values + [tuple(self.record), iter(self.record), {0: self.record[0]}]:
            self.assertEqual(judge_record(self.engine, thing), (0, "list"))

    def test_wrong_entries_at_each_place(self):
        for at in range(3):
            right = self.record[at]
            wrong = [right[:3], right + (1,), list(right), ("cid",) + right[1:], (1,) + right[1:], ("c",) + right[1:],
                     (Strange(),) + right[1:], ("",) + right[1:], ()]
            for thing in [value for value in strange_values()] + wrong:
                record = self.record[:at] + [thing] + self.record[at + 1:]
                self.assertEqual(judge_record(self.engine, record), (at, "entry"))
            others = [(right[0], "Take") + right[2:], right[:2] + ("d", right[3]), right[:2] + (6, right[3]),
                      right[:3] + ((2,),), right[:3] + ([],), right[:3] + (list(right[3]),), right[:3] + (None,),
                      right[:3] + (right[3] + (1,),), (right[0], None, None, None), right[:1] + (Strange(),) + right[2:],
                      right[:3] + (Strange(),), right[:2] + (Strange(), right[3])]
            for thing in others:
                record = self.record[:at] + [thing] + self.record[at + 1:]
                self.assertEqual(judge_record(self.engine, record), (at, "other"))

    def test_true_is_no_integer(self):
        net = Net({"ann": work(1) + take("c")}, {"c": 1})
        engine = Engine(net, 0, Rooms({"c": 1}))
        right = [("ann", "work", 1, ()), ("ann", "take", "c", (1,))]
        self.assertIsNone(judge_record(engine, right))
        self.assertEqual(judge_record(engine, [("ann", "work", True, ()), right[1]]), (0, "other"))
        self.assertEqual(judge_record(engine, [("ann", "work", 1.0, ()), right[1]]), (0, "other"))
        self.assertEqual(judge_record(engine, [right[0], ("ann", "take", "c", (True,))]), (1, "other"))
        self.assertEqual(judge_record(engine, [right[0], ("ann", "take", "c", (1.0,))]), (1, "other"))

    def test_refused(self):
        self.assertEqual(judge_record(self.engine, self.record + [self.record[0]]), (3, "refused"))
        self.assertEqual(judge_record(self.engine, [self.record[0], self.record[0]]), (1, "refused"))
        self.assertEqual(judge_record(self.engine, self.record + [("ann", 1, 2, 3)]), (3, "refused"))
        self.assertEqual(judge_record(self.engine, self.record + [("cid", 1, 2, 3)]), (3, "entry"))

    def test_the_first_that_is_not_right(self):
        record = [self.record[0], ("ann", "send", "c", (4, 124)), None]
        self.assertEqual(judge_record(self.engine, record), (1, "other"))
        record[0] = None
        self.assertEqual(judge_record(self.engine, record), (0, "entry"))

    def test_by_chance(self):
        for chance in chances(60, 371):
            net = chance_net(chance)
            rooms = chance_rooms(chance, net)
            engine = Engine(net, 2, rooms)
            other = engine.copy()
            other.play(None, 60)
            before = state_of(engine)
            log = other.log
            self.assertIsNone(judge_record(engine, log))
            if log:
                at = chance.randrange(len(log))
                process, word, name, values = log[at]
                log[at] = (process, word, name, values + (7,))
                self.assertEqual(judge_record(engine, log), (at, "other"))
            self.assertEqual(state_of(engine), before)


if __name__ == "__main__":
    unittest.main()

"""[41]: the console."""

import unittest

from leastrooms.console import Console
from leastrooms.corners import corners, least_rooms, why_not
from leastrooms.errors import BadLine, TooMany
from leastrooms.moments import begin
from leastrooms.nets import Net
from leastrooms.rooms import Rooms
from leastrooms.rows import channels_of, loop, send, take
from leastrooms.runs import run
from tests.helping import Case, Strange, chance_net, chance_rooms, chances, strange_values

FAR = 10 ** 30
MOST = 10 ** 200
ASKED = ["least", "corners", "enough", "ends", "levels", "can", "begin", "step ann"]


def told(*lines):
    """A console behind lines that are all answered by ok."""
    console = Console()
    for line in lines:
        answer = console.run(line)
        if answer != "ok":
            raise AssertionError(f"{line}: {answer}")
    return console


def meeting(*lines):
    return told("process ann: loop n (send c); send d", "process bob: take d; loop n (take c)", "number 5", *lines)


def state_of(console):
    """What a console answers."""
    return [console.run(line) for line in ASKED[:6]]


def lines_of(net, n, rooms):
    """The lines that tell a console of a net, n and rooms."""
    lines = [f"process {process}: {net.row(process)}" for process in net.processes]
    lines += [f"first {channel} {net.first(channel)}" for channel in net.channels if net.first(channel)]
    lines += [f"store {store} {' '.join(net.channels_in(store))}" for store in net.stores if store not in net.channels]
    lines += [f"room {store} {'-' if room is None else room}" for store, room in rooms.pairs()]
    return lines + [f"number {n}"]


def as_text(found):
    texts = [" ".join(f"{store}={'-' if room is None else room}" for store, room in rooms.pairs()) or "empty" for rooms in found]
    return " | ".join(texts) or "none"


class ConsoleTest(Case):
    def test_the_example(self):
        console = Console()
        first = [console.run(line) for line in [
            "process ann: loop n (send c); send d", "process bob: take d; loop n (take c)", "number 5", "least", "corners",
        ]]
        second = [console.run(line) for line in ["enough", "room c 5", "enough", "step bob", "step ann", "levels", "ends"]]
        self.assertEqual([first, second], [
            ["ok", "ok", "ok", "c=5 d=1", "c=4 d=-"],
            ["no c=4 d=-", "ok", "yes", "empty d", "ok", "c 1, d 0", "ann ended, bob ended"],
        ])

    def test_no_net(self):
        console = Console()
        for line in ASKED:
            self.assertEqual(console.run(line), "no net")
        console.run("process ann: send c; take c")
        for line in ASKED:
            self.assertEqual(console.run(line), "no net")
        console = meeting("process cid: send c")
        for line in ASKED:
            self.assertEqual(console.run(line), "no net")
        self.assertEqual(console.run("forget cid"), "ok")
        self.assertEqual(console.run("least"), "c=5 d=1")

    def test_too_many_processes_are_no_net(self):
        console = told(*[f"process {'abcdefgh'[:index + 1]}: work 1" for index in range(8)])
        self.assertEqual(console.run("can"), "a ab abc abcd abcde abcdef abcdefg abcdefgh")
        console.run("process x: work 1")
        self.assertEqual(console.run("can"), "no net")

    def test_process(self):
        console = told("process ann: ")
        self.assertEqual(console.run("ends"), "ann ended")
        self.assertEqual(console.run("least"), "empty")
        self.assertEqual(console.run("corners"), "none")
        self.assertEqual(console.run("levels"), "none")
        self.assertEqual(console.run("can"), "none")
        self.assertEqual(console.run("enough"), "yes")
        console.run("process ann: work 5")
        self.assertEqual(console.run("can"), "ann")
        console.run("process ann: take c")
        self.assertEqual(console.run("ends"), "ann empty")

    def test_first(self):
        console = meeting("first c 3")
        self.assertEqual(console.run("levels"), "c 3, d 0")
        self.assertEqual(console.run("least"), "c=8 d=1")
        console.run("first c 0")
        self.assertEqual(console.run("levels"), "c 0, d 0")
        console.run("first c 99")
        self.assertEqual(console.run("levels"), "c 99, d 0")
        console.run("first x 5")
        console.run("first ann 5")
        self.assertEqual(console.run("levels"), "c 99, d 0")
        console.run("process cid: take x")
        self.assertEqual(console.run("levels"), "c 99, d 0, x 5")
        console.run("forget x")
        self.assertEqual(console.run("levels"), "c 99, d 0, x 0")

    def test_store(self):
        console = meeting("store s c d")
        self.assertEqual([console.run("least"), console.run("corners")], ["s=6", "s=5"])
        console.run("store s d c x")
        self.assertEqual(console.run("least"), "s=6")
        console.run("store s c x y")
        self.assertEqual(console.run("least"), "c=5 d=1")
        console.run("store t c d")
        self.assertEqual(console.run("least"), "t=6")
        console.run("store s c d")
        self.assertEqual(console.run("least"), "no net")
        console.run("forget t")
        self.assertEqual(console.run("least"), "s=6")
        console.run("store c c d")
        self.assertEqual(console.run("least"), "no net")
        console.run("forget c")
        self.assertEqual(console.run("least"), "s=6")

    def test_a_store_whose_channels_have_several_senders(self):
        console = told("process ann: send c; take d", "process bob: take c; send d", "store s c d")
        self.assertEqual(console.run("least"), "no net")

    def test_number(self):
        console = meeting()
        for n in (0, 7, FAR):
            self.assertEqual(console.run(f"number {n}"), "ok")
            self.assertEqual(console.run("least"), f"c={max(n, 1)} d=1")
        self.assertEqual(told("process ann: loop n (send c)", "process bob: loop n (take c)").run("can"), "none")

    def test_room(self):
        console = meeting()
        for figures, answer in [("4", "no c=4 d=-"), ("5", "yes"), ("-", "yes"), (str(MOST), "yes"), ("0", "no c=4 d=-")]:
            self.assertEqual(console.run(f"room c {figures}"), "ok")
            self.assertEqual(console.run("enough"), answer)
        # Rooms of stores that there are not are kept for later.
        console.run("room s 6")
        self.assertEqual(console.run("enough"), "no c=4 d=-")
        console.run("store s c d")
        self.assertEqual(console.run("enough"), "yes")
        console.run("forget s")
        self.assertEqual(console.run("enough"), "no c=4 d=-")
        console.run("store s c d")
        self.assertEqual(console.run("enough"), "no s=5")

    def test_rooms_less_than_the_least_ones(self):
        console = meeting("first c 3", "room c 2")
        self.assertEqual(console.run("step ann"), "full c")
        console.run("room c 4")
        self.assertEqual([console.run("step ann"), console.run("step ann")], ["ok", "full c"])

    def test_forget(self):
        console = meeting("first c 2", "room c 7", "store c x y")
        self.assertEqual(console.run("enough"), "yes")
        console.run("forget c")
        self.assertEqual([console.run("enough"), console.run("levels")], ["no c=4 d=-", "c 0, d 0"])
        self.assertEqual(console.run("forget nothing"), "ok")
        console.run("forget bob")
        self.assertEqual(console.run("ends"), "ann full")
        console.run("forget ann")
        self.assertEqual(console.run("ends"), "no net")
        # One name may be that of a process, a channel and a store at once.
        console = told("process c: send c; send d", "first c 1", "room c 3", "store c d e")
        self.assertEqual(console.run("levels"), "c 1, d 0")
        console.run("forget c")
        self.assertEqual(console.run("levels"), "no net")

    def test_several_rooms(self):
        console = told("process ann: loop 5 (send c); loop 3 (take d)", "process bob: loop 3 (send d); loop 5 (take c)")
        self.assertEqual(console.run("least"), "c=1 d=3 | c=5 d=1")
        self.assertEqual(console.run("corners"), "c=4 d=2")
        self.assertEqual(console.run("enough"), "no c=4 d=2")

    def test_steps(self):
        console = meeting("number 2", "room c 1")
        self.assertEqual([console.run(line) for line in ["can", "step ann", "step ann", "levels", "can", "step cid", "step bob"]],
                         ["ann", "ok", "full c", "c 1, d 0", "none", "no cid", "empty d"])
        self.assertEqual(console.run("begin"), "ok")
        self.assertEqual(console.run("levels"), "c 0, d 0")
        console.run("room c 2")
        steps = ["ann", "ann", "ann", "ann", "bob", "bob", "bob", "bob"]
        self.assertEqual([console.run(f"step {process}") for process in steps],
                         ["ok", "ok", "ok", "ended", "ok", "ok", "ok", "ended"])
        self.assertEqual(console.run("can"), "none")

    def test_each_line_lets_the_moment_begin_anew(self):
        for line in ["process cid: ", "process ann: loop n (send c); send d", "first c 0", "store s d x", "number 5", "room c 9",
                     "room x 1", "forget nothing"]:
            console = meeting()
            self.assertEqual(console.run("step ann"), "ok")
            for asked in ["least", "corners", "enough", "ends", "levels", "can", "step cid"]:
                console.run(asked)
            self.assertEqual(console.run("levels"), "c 1, d 0")
            self.assertEqual(console.run(line), "ok")
            self.assertEqual(console.run("levels"), "c 0, d 0")

    def test_ends(self):
        console = told("process ann: forever (send c)", "process bob: forever (take c)", "process cid: take x",
                       "process dan: send y; send y", "process eva: work 1")
        self.assertEqual(console.run("ends"), "ann moves, bob moves, cid empty, dan full, eva ended")
        self.assertEqual(console.run("enough"), "no c=- x=- y=1")

    def test_rooms_without_limit(self):
        console = told("process ann: forever (send c)", "process bob: take c")
        self.assertEqual([console.run("least"), console.run("corners")], ["c=-", f"c={MOST}"])

    def test_far_numbers(self):
        console = meeting(f"number {FAR}")
        self.assertEqual([console.run(line) for line in ["least", "corners", "enough", "ends"]],
                         [f"c={FAR} d=1", f"c={FAR - 1} d=-", f"no c={FAR - 1} d=-", "ann full, bob empty"])

    def test_too_many(self):
        net = Net({"ann": crossing(True), "bob": crossing(False)})
        console = told(*lines_of(net, 0, Rooms({store: 1 for store in net.stores})))
        for line in ("least", "corners", "enough"):
            self.fails(TooMany, console.run, line)
        self.assertEqual(console.run("levels"), ", ".join(f"{channel} 0" for channel in net.channels))

    def test_by_chance(self):
        for chance in chances(60, 411):
            net = chance_net(chance, 0.2)
            rooms = chance_rooms(chance, net)
            n = chance.randint(0, 3)
            lines = lines_of(net, n, rooms)
            chance.shuffle(lines)
            console = told(*lines)
            far = run(net, n, rooms)
            self.assertEqual(console.run("ends"), ", ".join(f"{process} {far.state(process)}" for process in net.processes))
            try:
                expected = [as_text(least_rooms(net, n)), as_text(corners(net, n))]
                corner = why_not(net, n, rooms)
            except TooMany:
                continue
            self.assertEqual([console.run("least"), console.run("corners")], expected)
            self.assertEqual(console.run("enough"), "yes" if corner is None else f"no {as_text([corner])}")
            now = begin(net, n, rooms)
            for _ in range(10):
                process = chance.choice(net.processes)
                wait = now.wait(process)
                answer = console.run(f"step {process}")
                if wait is None:
                    self.assertEqual(answer, "ok")
                    now = now >> process
                else:
                    self.assertEqual(answer, " ".join(word for word in wait if word is not None))
                self.assertEqual(console.run("can"), " ".join(now.can()) or "none")
                levels = [f"{channel} {now.level(channel)}" for channel in net.channels]
                self.assertEqual(console.run("levels"), ", ".join(levels) or "none")
            self.assertTrue(all(channel in net.channels for process in net.processes for channel in channels_of(net.row(process))))


def crossing(is_first):
    """One of two programs whose nets have more than sixty least rooms."""
    row = None
    for c, d, many in [("aa", "bb", 4), ("cc", "dd", 4), ("ee", "ff", 4)]:
        for size in range(1, many):
            one = loop(size + 1, send(c)) + loop(many + 1 - size, take(d))
            other = loop(many + 1 - size, send(d)) + loop(size + 1, take(c))
            piece = one if is_first else other
            row = piece if row is None else row + piece
    return row


class BadLineTest(Case):
    def refuses(self, console, lines):
        before = state_of(console)
        for line in lines:
            with self.subTest(line=line[:40] if isinstance(line, str) else type(line)):
                self.keeps(BadLine, line, console.run, line)
        self.assertEqual(state_of(console), before)

    def test_other_forms(self):
        console = meeting("room c 3", "first c 1")
        self.assertEqual(console.run("step ann"), "ok")
        self.refuses(console, [
            "", " ", "process", "process ", "process ann", "process ann:", "process ann work 1", "process ann:work 1",
            "process ann : work 1", "process Ann: work 1", "process : work 1", "process ann:  work 1", "process ann: work 1 ",
            "process  ann: work 1", " process ann: work 1", "process ann: work 0", "process ann: wait", "process abcdefghi: work 1",
            "process ann: work 1\n", "process ann: work 1;", "process an n: work 1", "process ann: " + "(" * 5000, "Process ann: work 1",
            "process ann: bob: work 1", "process ann:: work 1", "process: ann: work 1", "process ann: send c 1",
            "first", "first c", "first c ", "first c -1", "first c +1", "first c 01", "first c 100", "first c 00", "first C 1",
            "first c 1 1", "first  c 1", "first c  1", "first c x", "first c 1 ", "first c " + "1" * 5000, "first 1 1", "first: c 1",
            "store", "store s", "store s c", "store s c c", "store s c d c", "store S c d", "store s C d", "store s c  d",
            "store s c d ", "store  s c d", "store s c, d", "store s: c d", "store 1 c d", "store s c 1",
            "number", "number ", "number -1", "number +1", "number 01", "number 00", f"number {FAR + 1}", "number n", "number 5 5",
            "number  5", "number 5 ", " number 5", "number " + "1" * 5000, "number 5\n", "number \u0665", "number 1.0", "Number 5",
            "room", "room c", "room c ", "room c +5", "room c -5", "room c 05", f"room c {MOST + 1}", "room c none", "room c --",
            "room C 5", "room c 5 5", "room  c 5", "room c  5", "room c 5 ", "room c x", "room c " + "9" * 5000, "room - 5",
            "forget", "forget ", "forget C", "forget c d", "forget  c", "forget c ", "forget abcdefghi", "forget 1", "forget -",
            "least ", " least", "least c", "Least", "leasts", "corners ", "corners 5", "corner", "enough ", "enough?", "ends ",
            "ends ann", "end", "levels ", "levels c", "level c", "can ", "can ann", "begin ", "begin 5", "begin\n", "\nbegin",
            "step", "step ", "step Ann", "step  ann", "step ann ", "step ann bob", "step 1", "step abcdefghi", "steps ann", "undo",
            "run", "help", "least\nleast", "ok", "no net", "process ann: work 1\nprocess bob: work 1",
        ])
        self.assertEqual(console.run("levels"), "c 2, d 0")

    def test_any_value(self):
        console = meeting()
        self.refuses(console, strange_values() + [b"least", ["least"], ("least",), Strange()])

    def test_a_wrong_line_is_wrong_without_a_net_too(self):
        for line in ["least ", "step Ann", "process ann: wait", None]:
            self.keeps(BadLine, line, Console().run, line)

    def test_each_place_of_a_blank(self):
        for line in ["process ann: send c; take d", "first c 3", "store s c d", "number 7", "room c 5", "room c -", "forget c",
                     "step ann", "least", "begin"]:
            for at in range(len(line) + 1):
                other = line[:at] + " " + line[at:]
                if other not in ("process ann: send c; take d",):
                    self.keeps(BadLine, other, meeting().run, other)


if __name__ == "__main__":
    unittest.main()

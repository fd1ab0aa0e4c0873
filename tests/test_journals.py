"""[38] and [4] (i): journals."""

import unittest

from leastrooms.engine import Engine, judge_record
from leastrooms.errors import BadEntries, BadJournal, BadValue
from leastrooms.journals import read_journal, recover, resume, write_journal
from leastrooms.nets import Net
from leastrooms.rooms import Rooms
from leastrooms.rows import send, take, work
from tests.helping import Case, Strange, chance_net, chance_rooms, chances, strange_values

MOST_VALUE = 10 ** 15


def entries_of_all_kinds():
    return [
        ("ann", "work", 5, ()), ("bob", "send", "c", (0,)), ("cid", "take", "c", (MOST_VALUE, 0, 7)), ("ann", "work", 99, ()),
        ("abcdefgh", "send", "ijklmnop", tuple(range(9))), ("work", "take", "send", (10,)), ("a", "work", 1, ()),
        ("bob", "send", "work", (100, 100)),
    ]


def checks_of(text):
    """The CHECK of each line by the words of the document."""
    found = []
    s = 7
    for line in text.split("\n")[:-1]:
        for sign in line[:line.rindex(" ")]:
            s = (s * 131 + ord(sign)) % 9973
        found.append(str(s))
    return found


def signed(told, ahead=()):
    """Lines with right checks behind some others."""
    s = 7
    for line in list(ahead) + [told]:
        for sign in line:
            s = (s * 131 + ord(sign)) % 9973
    return f"{told} {s}\n"


class WriteTest(Case):
    def test_the_example(self):
        self.assertEqual(write_journal([("bob", "take", "c", (1,))]), "bob take c 1 5388\n")
        self.assertEqual(recover("bob take c 1 5388\nann"), [("bob", "take", "c", (1,))])

    def test_ordinary(self):
        entries = entries_of_all_kinds()
        text = write_journal(entries)
        lines = text.split("\n")
        self.assertEqual(lines[-1], "")
        self.assertEqual([line[:line.rindex(" ")] for line in lines[:-1]], [
            "ann work 5", "bob send c 0", "cid take c 1000000000000000 0 7", "ann work 99",
            "abcdefgh send ijklmnop 0 1 2 3 4 5 6 7 8", "work take send 10", "a work 1", "bob send work 100 100",
        ])
        self.assertEqual([line[line.rindex(" ") + 1:] for line in lines[:-1]], checks_of(text))
        self.assertEqual(write_journal(tuple(entries)), text)
        self.assertEqual(write_journal([]), "")
        self.assertEqual(write_journal(()), "")
        self.assertEqual(entries, entries_of_all_kinds())

    def test_wrong(self):
        right = ("ann", "take", "c", (1,))
        wrong = [
            ("Ann", "take", "c", (1,)), (1, "take", "c", (1,)), ("", "take", "c", (1,)), ("ann", "Take", "c", (1,)),
            ("ann", "wait", "c", (1,)), ("ann", None, "c", (1,)), ("ann", "take", "C", (1,)), ("ann", "take", 1, (1,)),
            ("ann", "take", "c", ()), ("ann", "take", "c", (1,) * 10), ("ann", "take", "c", [1]), ("ann", "take", "c", 1),
            ("ann", "take", "c", (-1,)), ("ann", "take", "c", (MOST_VALUE + 1,)), ("ann", "take", "c", (True,)),
            ("ann", "take", "c", (1.0,)), ("ann", "take", "c", (1, None)), ("ann", "take", "c", ("1",)),
            ("ann", "work", 0, ()), ("ann", "work", 100, ()), ("ann", "work", True, ()), ("ann", "work", "5", ()),
            ("ann", "work", "c", ()), ("ann", "work", 5, (1,)), ("ann", "work", 5, []), ("ann", "work", 5, None),
            ("ann", "work", 5), ("ann", "work", 5, (), ()), ["ann", "work", 5, ()], "ann work 5",
            (Strange(), "work", 5, ()), ("ann", Strange(), 5, ()), ("ann", "work", Strange(), ()), ("ann", "work", 5, Strange()),
        ]
        lists = [[thing] for thing in wrong + strange_values()] + [(right, thing) for thing in wrong]
        lists += [[right, right, thing] for thing in wrong]
        no_lists = [value for value in strange_values() if value not in ([], ())] + [right, {0: right}, iter([right])]
        self.keeps_all(BadEntries, lists + no_lists, write_journal)


class ReadTest(Case):
    def reads(self, text, line):
        """Reading is refused with this line, and just the entries ahead of it are recovered."""
        self.keeps_equal(BadJournal, line, read_journal, text)
        lines = text.split("\n")[:line]
        self.assertEqual(recover(text), read_journal("".join(told + "\n" for told in lines)))

    def test_what_was_written_comes_back(self):
        entries = entries_of_all_kinds()
        text = write_journal(entries)
        self.assertEqual(read_journal(text), entries)
        self.assertEqual(recover(text), entries)
        self.assertEqual(read_journal(""), [])
        self.assertEqual(recover(""), [])
        one = read_journal(text)
        one.clear()
        self.assertEqual(read_journal(text), entries)

    def test_no_texts(self):
        values = [value for value in strange_values() if not isinstance(value, str)]
        for thing in values + [write_journal(entries_of_all_kinds()).encode()]:
            self.keeps_equal(BadJournal, 0, read_journal, thing)
            self.keeps_equal(BadJournal, 0, recover, thing)
            self.keeps_equal(BadJournal, 0, resume, Engine(Net({"ann": work(1)}), 0, Rooms({})), thing)
        for thing in [value for value in strange_values() if isinstance(value, str) and value != ""]:
            self.reads(thing, 0)

    def test_cut_at_each_place(self):
        entries = entries_of_all_kinds()
        text = write_journal(entries)
        for at in range(len(text)):
            part = text[:at]
            whole = part.count("\n")
            self.assertEqual(recover(part), entries[:whole])
            if part == "" or part.endswith("\n"):
                self.assertEqual(read_journal(part), entries[:whole])
            else:
                self.reads(part, whole)

    def test_each_sign_exchanged(self):
        entries = entries_of_all_kinds()[:5]
        text = write_journal(entries)
        for at, sign in enumerate(text):
            for other in "a0 -\n":
                if other != sign:
                    changed = text[:at] + other + text[at + 1:]
                    # A line feed that goes makes one line of two; the first one is then not right.
                    self.reads(changed, text[:at].count("\n"))

    def test_each_sign_left_out_or_doubled(self):
        entries = entries_of_all_kinds()[:4]
        text = write_journal(entries)
        for at in range(len(text)):
            line = text[:at].count("\n")
            if text[:at] + text[at + 1:] != text[:-1] or at + 1 < len(text):
                self.reads(text[:at] + text[at + 1:], line)
            doubled = text[:at + 1] + text[at:]
            self.reads(doubled, line + 1 if text[at] == "\n" else line)

    def test_wrong_checks(self):
        entries = entries_of_all_kinds()
        lines = write_journal(entries).split("\n")[:-1]
        for index, line in enumerate(lines):
            told, check = line.rsplit(" ", 1)
            for wrong in [str(int(check) + 1), "0" + check, "+" + check, "-" + check, " " + check, check + " ", "", "7",
                          str(int(check) + 9973), check + "0" * 5000]:
                changed = lines[:index] + [told + " " + wrong] + lines[index + 1:]
                self.reads("\n".join(changed) + "\n", index)
        # A line that goes makes the check of the next one wrong.
        for index in range(len(lines) - 1):
            self.reads("\n".join(lines[:index] + lines[index + 1:]) + "\n", index)

    def test_what_is_written_in_another_way(self):
        self.assertEqual(read_journal(signed("ann work 5")), [("ann", "work", 5, ())])
        for told in ["ann work 05", "ann work +5", "ann work -5", "ann work 0", "ann work 100", "ann work 5 1", "ann work",
                     "ann work c", "ann work 5 ", " ann work 5", "ann  work 5", "ann work  5", "Ann work 5", "ann Work 5",
                     "ann work \u0665", "ann work 5_0", "ann work 5.0", "", " ", "ann", "  ", "ann work 5\t",
                     "ann send c", "ann send c 01", "ann send c +1", "ann send c -1", "ann send c 1  2", "ann send c 1 ",
                     "ann send C 1", "ann send 1 1", "ann send c " + str(MOST_VALUE + 1), "ann send c " + "9" * 5000,
                     "ann send c 1 2 3 4 5 6 7 8 9 10", "ann send c 00", "ann send c 1\r", "ann send c x", "abcdefghi send c 1",
                     "ann take c", "ann take  c 1", "ann wait c 1", "ann send c\u00a01", "\u00e4 work 5"]:
            with self.subTest(told=told[:40]):
                self.reads(signed(told), 0)
                self.reads(signed("ann work 5") + signed(told, ["ann work 5"]), 1)
        self.reads("\n", 0)
        self.reads(signed("ann work 5") + "\n", 1)
        self.reads(signed("ann work 5").replace("\n", "\r\n"), 0)

    def test_by_chance(self):
        for chance in chances(60, 381):
            net = chance_net(chance)
            engine = Engine(net, 2, chance_rooms(chance, net))
            engine.play(None, 50)
            text = write_journal(engine.log)
            self.assertEqual([line.rsplit(" ", 1)[1] for line in text.split("\n")[:-1]], checks_of(text))
            self.assertEqual(read_journal(text), engine.log)
            at = chance.randint(0, len(text))
            self.assertEqual(recover(text[:at]), engine.log[:text[:at].count("\n")])


class ResumeTest(Case):
    def setUp(self):
        self.net = Net({"ann": send("c", 2) + work(5), "bob": take("c")}, {"c": 1})
        self.rooms = Rooms({"c": 3})

    def engine(self, seeds=None, fold=None):
        return Engine(self.net, 0, self.rooms, seeds, fold)

    def test_ordinary(self):
        first = self.engine({"ann": 4})
        first.play()
        text = write_journal(first.log)
        second = self.engine({"ann": 4})
        self.assertEqual(resume(second, text), 3)
        self.assertEqual([second.log, second.held("ann"), second.moment], [first.log, first.held("ann"), first.moment])
        self.assertEqual(resume(second, text), 0)
        third = self.engine({"ann": 4})
        self.assertEqual(resume(third, text[:-1]), 2)
        self.assertEqual(third.log, first.log[:2])
        self.assertEqual(resume(third, write_journal(first.log[2:])), 1)
        self.assertEqual(third.log, first.log)
        self.assertEqual(resume(third, ""), 0)

    def test_entries_that_part(self):
        first = self.engine({"ann": 4})
        first.play(["bob", "ann"])
        log = first.log
        self.assertEqual([entry[0] for entry in log], ["bob", "ann", "ann"])
        for index, wrong in [(0, ("bob", "take", "c", (2,))), (1, ("ann", "send", "c", (4, 126))), (1, ("ann", "send", "c", (4,))),
                             (1, ("ann", "take", "c", (4, 125))), (2, ("ann", "work", 6, ())), (2, ("bob", "take", "c", (4,))),
                             (1, ("cid", "work", 5, ())), (2, ("c", "work", 5, ()))]:
            engine = self.engine({"ann": 4})
            self.assertEqual(resume(engine, write_journal(log[:index] + [wrong] + log[index + 1:])), index)
            self.assertEqual(engine.log, log[:index])
        other = self.engine({"ann": 5})
        self.assertEqual(resume(other, write_journal(log)), 1)
        self.assertEqual(other.held("ann"), 5)

    def test_each_value_is_folded_once(self):
        seen = []

        def fold(held, value):
            seen.append((held, value))
            return held + value
        first = self.engine(None, fold)
        first.play()
        text = write_journal(first.log)
        told = list(seen)
        seen.clear()
        self.assertEqual(resume(self.engine(None, fold), text), 3)
        self.assertEqual(seen, told)

    def test_an_exception_leaves_all_as_it_was(self):
        first = self.engine(None, lambda held, value: held + value)
        first.play()
        left = [2]

        def fold(held, value):
            left[0] -= 1
            return held + value if left[0] >= 0 else "no"
        engine = self.engine(None, fold)
        self.keeps(BadValue, "no", resume, engine, write_journal(first.log))
        self.assertEqual([engine.log, engine.held("ann"), engine.held("bob")], [[], 0, 0])

    def test_by_chance(self):
        for chance in chances(60, 382):
            net = chance_net(chance)
            rooms = chance_rooms(chance, net)
            engine = Engine(net, 2, rooms, None, None)
            order = list(net.processes)
            chance.shuffle(order)
            engine.play(order, 40)
            text = write_journal(engine.log)
            at = chance.randint(0, len(text))
            other = Engine(net, 2, rooms)
            self.assertEqual(resume(other, text[:at]), text[:at].count("\n"))
            self.assertEqual(other.log, engine.log[:len(other.log)])
            self.assertIsNone(judge_record(other, engine.log[len(other.log):]))


if __name__ == "__main__":
    unittest.main()

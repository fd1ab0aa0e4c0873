"""What the tests share: a test case that looks at errors, values of all kinds, and nets made by chance."""

import random
import unittest

from leastrooms.nets import Net
from leastrooms.rooms import Rooms
from leastrooms.rows import Row, channels_of, forever, loop, send, take, work


class Strange:
    """A value that is equal to everything, has no truth and no length."""

    __hash__ = None

    def __eq__(self, other):
        return True

    def __bool__(self):
        raise AssertionError("its truth was asked")


class Text(str):
    """A text that is not quite a str; words may be of this kind or not, so only wrong texts are made of it."""


def strange_values():
    """Values of every kind, none of them right anywhere but where a test says so."""
    deep = ()
    for _ in range(5000):
        deep = (deep,)
    around = []
    around.append(around)
    return [
        None, True, False, -1, 10 ** 5000, -10 ** 5000, 1.0, float("nan"), 1j,
        "", " ", "A", "Ann", "an n", "abcdefghi", "a1", "\u00e4", "\uff41", "7 ", "n" * 5000, Text("A B"), "(" * 9000,
        b"", b"c", (), (1,), (1, 2, 3), ("send",), ("send", "c"), (None, None), deep, [], [1], [[]], around, {}, {1: 2},
        {"a": None, "b": object()}, set(), {1}, frozenset(), range(3), object(), object, len, lambda: 1, Strange(),
        NotImplemented, ..., ValueError("c"), bytearray(b"c"), iter([]), (part for part in ()),
    ]


class Case(unittest.TestCase):
    """A test case that also looks at what an error keeps."""

    def fails(self, error, call, *given):
        """The error of exactly this class that the call raises."""
        with self.assertRaises(error) as caught:
            call(*given)
        self.assertIs(type(caught.exception), error)
        return caught.exception

    def keeps(self, error, value, call, *given):
        """The call raises such an error, which keeps this very value."""
        self.assertIs(self.fails(error, call, *given).value, value)

    def keeps_equal(self, error, value, call, *given):
        """The call raises such an error, which keeps an equal value of the same kind."""
        kept = self.fails(error, call, *given).value
        self.assertEqual(kept, value)
        self.assertIs(type(kept), type(value))

    def keeps_all(self, error, values, call):
        """The call raises such an error for each of the values, and it keeps the value."""
        for value in values:
            with self.subTest(kind=type(value)):
                self.keeps(error, value, call, value)


def nested(depth, inner):
    """Parts within so many loops."""
    parts = inner
    for _ in range(depth):
        parts = (("loop", (0, 1), parts),)
    return parts


def walk(parts, n):
    """Yield (part, place) of each step of a program at n, as the document tells places, round by round."""
    for index, part in enumerate(parts):
        if part[0] == "loop":
            many = max(0, part[1][0] * n + part[1][1])
            for done in range(many):
                for single, place in walk(part[2], n):
                    yield single, (index, done) + place
        elif part[0] == "forever":
            done = 0
            while does_something(part[1], n):
                for single, place in walk(part[1], n):
                    yield single, (index, done) + place
                done += 1
        else:
            yield part, (index,)


def does_something(parts, n):
    for part in parts:
        if part[0] == "loop":
            if part[1][0] * n + part[1][1] > 0 and does_something(part[2], n):
                return True
        elif part[0] == "forever":
            if does_something(part[1], n):
                return True
        else:
            return True
    return False


def chance_row(chance, sends, takes, depth=0, endless=0.0):
    """A row made by chance, of sends and takes of these channels."""
    row = Row()
    for _ in range(chance.randint(1, 4 if depth == 0 else 2)):
        kind = chance.random()
        if kind < 0.4 and sends:
            row = row + send(chance.choice(sends), chance.choice((1, 1, 1, 2)))
        elif kind < 0.75 and takes:
            row = row + take(chance.choice(takes), chance.choice((1, 1, 1, 2)))
        elif kind < 0.8:
            row = row + work(chance.randint(1, 9))
        elif depth < 3:
            count = chance.choice((0, 1, 2, 3, "n", "n-1", "2n", (3, -4)))
            row = row + loop(count, chance_row(chance, sends, takes, depth + 1))
    if chance.random() < endless:
        row = row + forever(chance_row(chance, sends, takes, 1))
    return row


def chance_net(chance, endless=0.0):
    """A net made by chance; its channels may lack a sender or a taker, and share stores."""
    processes = ["ann", "bob", "cid", "dan", "eva"][:chance.randint(1, 5)]
    sends = {process: [] for process in processes}
    takes = {process: [] for process in processes}
    for channel in "pqrstu"[:chance.randint(1, 6)]:
        ends = chance.sample(processes + [None], 2)
        for end, table in zip(ends, (sends, takes)):
            if end is not None:
                table[end].append(channel)
    programs = {process: chance_row(chance, sends[process], takes[process], 0, endless) for process in processes}
    known = sorted({channel for row in programs.values() for channel in channels_of(row)})
    first = {channel: chance.randint(1, 2) for channel in known if chance.random() < 0.2}
    stores = {}
    for process in processes:
        shared = [channel for channel in sends[process] if channel in known and sends_to(programs[process], channel)]
        if len(shared) > 1 and chance.random() < 0.6:
            stores["st" + process] = shared
    return Net(programs, first, stores)


def sends_to(row, channel):
    """Whether a row has a send to a channel."""
    return ("send " + channel) in str(row)


def chance_rooms(chance, net):
    """Rooms made by chance, some of them without limit."""
    return Rooms({
        store: None if chance.random() < 0.1 else net.least_room(store) + chance.choice((0, 0, 1, 2))
        for store in net.stores
    })


def chances(many, seed):
    """So many sources of chance, the same ones each time."""
    return [random.Random(seed * 100000 + index) for index in range(many)]


def crossing_net(chance, endless=False):
    """A net made by chance whose processes send each other as much as they take, in other orders."""
    processes = ["ann", "bob", "cid"][:chance.randint(2, 3)]
    pieces = {process: [] for process in processes}
    for channel in "pqrst"[:chance.randint(1, 5)]:
        sender, taker = chance.sample(processes, 2)
        for count in chance.sample([1, 2, 3, "n", "n+1", "2n"], chance.choice((1, 1, 2))):
            pieces[sender].append(loop(count, send(channel)))
            pieces[taker].append(loop(count, take(channel)))
    stores = {}
    for process in processes:
        chance.shuffle(pieces[process])
        sent = sorted({channel for piece in pieces[process] for channel in channels_of(piece)
                       if sends_to(piece, channel)})
        if len(sent) > 1 and chance.random() < 0.3:
            stores["st" + process] = sent
    programs = {process: joined(chance, pieces[process]) for process in processes}
    if endless:
        programs = {process: forever(row) for process, row in programs.items()}
    return Net(programs, None, stores)


def thick_net(chance):
    """The same with several messages at once, and other ones at the other end."""
    processes = ["ann", "bob", "cid"][:chance.randint(2, 3)]
    pieces = {process: [] for process in processes}
    for channel in "pqrst"[:chance.randint(1, 4)]:
        sender, taker = chance.sample(processes, 2)
        for _ in range(chance.choice((1, 1, 2))):
            k, count, other = chance.choice((1, 2, 3)), chance.choice((1, 2, 3)), chance.choice((1, 2, 3))
            sides = [(k, count * other), (other, count * k)]
            if chance.random() < 0.7:
                sides = [(one, f"{rounds}n" if rounds > 1 else "n") for one, rounds in sides]
            pieces[sender].append(loop(sides[0][1], send(channel, sides[0][0])))
            pieces[taker].append(loop(sides[1][1], take(channel, sides[1][0])))
    for process in processes:
        chance.shuffle(pieces[process])
    return Net({process: joined(chance, pieces[process]) for process in processes})


def bending_net(chance):
    """A net made by chance whose processes go other ways from some n on: plain loops, and loops that begin late."""
    processes = ["ann", "bob", "cid"][:chance.randint(2, 3)]
    pieces = {process: [] for process in processes}
    for channel in "pqrst"[:chance.randint(1, 3)]:
        sender, taker = chance.sample(processes, 2)
        for make, process in ((send, sender), (take, taker)):
            for _ in range(chance.choice((1, 1, 2))):
                count = chance.choice((3, 8, 12, 15, "n", "n", "2n", "n-3", "n-9", "3n-8"))
                pieces[process].append(loop(count, make(channel, chance.choice((1, 1, 1, 2)))))
    for process in processes:
        chance.shuffle(pieces[process])
    return Net({process: joined(chance, pieces[process]) for process in processes})


def joined(chance, pieces):
    """The pieces one behind another, sometimes several of them again in a loop."""
    row = Row()
    for piece in pieces:
        row = row + piece
    return row * chance.choice((2, "n")) if chance.random() < 0.2 else row

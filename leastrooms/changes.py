"""Changes of nets, and what becomes of their processes."""

from leastrooms.corners import least_rooms
from leastrooms.cuts import first_parts, steps_of
from leastrooms.edits import net_behind
from leastrooms.errors import BadChange, BadNet
from leastrooms.moments import begin
from leastrooms.nets import MOST_FIRST, Net, check_net, check_process
from leastrooms.rows import Row, are_parts_of_row, check_row
from leastrooms.runs import run
from leastrooms.words import LARGEST_NUMBER, check_number, is_between, is_tuple_of, is_word


class Draft:
    """A net, and the changes that led to it."""

    def __init__(self, net):
        check_net(net)
        self.net = net
        self.changes = ()

    def __rshift__(self, other):
        net = net_behind(self.net, other) if is_change(other) else None
        if net is None:
            raise BadChange(other)
        behind = Draft(net)
        behind.changes = self.changes + (other,)
        return behind


def is_change(thing):
    """Whether a value is a change."""
    if is_tuple_of(thing, "row", 3):
        return is_word(thing[1]) and are_parts_of_row(thing[2])
    if is_tuple_of(thing, "first", 3):
        return is_word(thing[1]) and is_between(thing[2], 0, MOST_FIRST)
    if is_tuple_of(thing, "join", 3):
        return is_word(thing[1]) and _are_different_words(thing[2])
    if is_tuple_of(thing, "part", 2):
        return is_word(thing[1])
    if is_tuple_of(thing, "relay", 4):
        return all([is_word(name) for name in thing[1:]])
    if is_tuple_of(thing, "kill", 4):
        return is_word(thing[1]) and all([is_between(number, 0, LARGEST_NUMBER) for number in thing[2:]])
    return False


def cut(row, n, steps):
    """The Row of the first so many steps of a program at n."""
    check_row(row)
    check_number(n)
    check_number(steps)
    return Row(first_parts(row.parts, n, steps))


def steps_in_row(row, n):
    """How many steps a program has at n, None if without end."""
    check_row(row)
    check_number(n)
    return steps_of(row.parts, n)


def fates(net, n, rooms):
    """What becomes of each process: "ended", "moves", "starved" or "stuck"."""
    return _fates_of(run(net, n, rooms))


def fates_after(net, n, rooms, process, steps):
    """The fates if a process is killed behind so many steps."""
    begin(net, n, rooms)
    check_process(net, process)
    check_number(steps)
    change = ("kill", process, n, steps)
    killed = net_behind(net, change)
    if killed is None:
        raise BadChange(change)
    return fates(killed, n, rooms)


def difference(net, other, n):
    """The least Rooms of both nets, of the first alone, and of the second alone: three lists."""
    check_net(net)
    if not isinstance(other, Net) or other.stores != net.stores:
        raise BadNet(other)
    one = least_rooms(net, n)
    further = least_rooms(other, n)
    return [
        [rooms for rooms in one if rooms in further],
        [rooms for rooms in one if rooms not in further],
        [rooms for rooms in further if rooms not in one],
    ]


def _are_different_words(thing):
    """Whether a value is a tuple of two or more words, all different."""
    if not isinstance(thing, tuple) or len(thing) < 2:
        return False
    return all([is_word(word) for word in thing]) and len(set(thing)) == len(thing)


def _fates_of(far):
    """The fates in the end of a Run."""
    gone = far.lost
    return {process: _fate_in(far.state(process), process in gone) for process in far.moment.net.processes}


def _fate_in(state, is_gone):
    if state in ("ended", "moves"):
        return state
    return "starved" if is_gone else "stuck"

"""What the tests hold against the program: whether courses are right and rooms enough, by playing each step."""

from leastrooms.ends import end_of
from leastrooms.errors import TooLong
from leastrooms.moments import begin


class Wrong(Exception):
    """An item that is not right."""


def rounds_around(net, n, process, place):
    """The rounds of each loop around a place, None for a forever."""
    found = []
    parts = net.row(process).parts
    for index in place[0::2]:
        part = parts[index]
        if part[0] == "loop":
            found.append(max(0, part[1][0] * n + part[1][1]))
            parts = part[2]
        elif part[0] == "forever":
            found.append(None)
            parts = part[1]
    return found


def play_item(now, item):
    """The moment behind an item (behind one go, if it is without end), by all of its steps; Wrong if it is not right."""
    if isinstance(item, str):
        if item not in now.net.processes or now.wait(item) is not None:
            raise Wrong()
        return now >> item
    _, goes, inner = item
    before = now
    for inside in inner:
        now = play_item(now, inside)
    movers = look_at_places(before, now, goes)
    if goes is None:
        look_at_levels(before, now, movers)
        return now
    for _ in range(goes - 1):
        for inside in inner:
            now = play_item(now, inside)
    return now


def look_at_places(before, now, goes):
    """Wrong if one go does not leave all processes where so many goes may be done; returns those that moved."""
    movers = []
    for process in now.net.processes:
        one, other = before.place(process), now.place(process)
        if one == other:
            continue
        differ = [at for at in range(len(one)) if len(one) == len(other) and one[at] != other[at]]
        if len(differ) != 1 or differ[0] % 2 == 0 or other[differ[0]] < one[differ[0]]:
            raise Wrong()
        total = rounds_around(now.net, now.n, process, one)[differ[0] // 2]
        more = other[differ[0]] - one[differ[0]]
        if goes is None and total is not None:
            raise Wrong()
        if goes is not None and total is not None and one[differ[0]] + goes * more >= total:
            raise Wrong()
        movers.append(process)
    return movers


def look_at_levels(before, now, movers):
    """Wrong if what was done once can't go on for ever."""
    net = now.net
    if not movers:
        raise Wrong()
    for channel in net.channels:
        if now.level(channel) < before.level(channel):
            raise Wrong()
        if now.level(channel) > before.level(channel):
            taker = net.taker(channel)
            waits = taker is not None and taker not in movers and now.wait(taker) == ("empty", channel)
            if now.rooms[net.store_of(channel)] is not None or waits:
                raise Wrong()
    if [process for process in now.can() if process not in movers]:
        raise Wrong()


def play(moment, items):
    """The moment behind items, or ahead of the one without end; or the index of the first one that is not right."""
    for index, item in enumerate(items):
        try:
            behind = play_item(moment, item)
        except Wrong:
            return index
        if not isinstance(item, str) and item[1] is None:
            return moment
        moment = behind
    return moment


def is_enough_by_steps(net, n, rooms, most=10000):
    """Whether in the end no process waits for room, for nets that come to an end; None if it is too far."""
    try:
        end = end_of(begin(net, n, rooms), most)
    except TooLong:
        return None
    return not [process for process in net.processes if end.wait(process)[0] == "full"]

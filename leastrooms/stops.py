"""Stops: the sends, takes and works of a program at n, and how the program goes on behind each."""

from leastrooms.counts import rounds
from leastrooms.rows import inner_parts, is_round


class Stop:
    """A part at which a process can stand at n, or the end of its program, where part is None.

    Where a process is, is told by the index of its stop and by a tuple of how many rounds are
    done of each loop or forever around it, the outermost first.
    """

    def __init__(self, part, path, totals):
        self.part = part
        self.word = "ended" if part is None else part[0]
        self.channel = None if self.word in ("ended", "work") else part[1]
        self.k = 0 if self.channel is None else part[2]
        # Of the channel: its store, all channels of that store, and the process at its other end.
        self.store = None
        self.sharing = ()
        self.peer = None
        # path: the index of the part in each row around it; totals: the rounds of each loop around
        # it, None for a forever; both with the outermost first.
        self.path = path
        self.totals = totals
        # again: for each loop whose round ends here, the innermost first, its depth, its rounds,
        # the index of its first stop, and the rounds done there of the loops within it.
        self.again = []
        # Behind all these: the index of the next stop, how many loops go on there that go on
        # here, and the rounds done there of the others.
        self.onward = 0
        self.kept = 0
        self.fresh = ()
        # The depth of the loop whose rounds consist of this stop alone; -1 if there is none, or it is a forever.
        self.alone = -1
        # Whether it comes again within one round of a forever, but for the rounds of a loop in which it is alone.
        self.recurs = False
        # What its step is told by in slacks: the level behind a take; the room left behind a send, or
        # how much is then in a store without limit.
        self.low_key = ("low", self.channel)
        self.rest_key = None
        self.fill_key = None


def stops_of(net, process, n):
    """A list of the stops of a process at n, its end as the last one."""
    return stops_along(net, net.row(process).parts, n)


def stops_along(net, parts, n):
    """A list of the stops of a process with these parts at n, its end as the last one."""
    stops = [Stop(part, path, totals) for part, path, totals in _told(parts, n)]
    stops.append(Stop(None, (), ()))
    for index, stop in enumerate(stops):
        if stop.channel is not None:
            _place_in(net, stop)
        if stop.part is not None:
            _link(stops, index)
    return stops


def wait_at(stop, levels, limits):
    """What a process at a stop waits for with these levels of channels and rooms of stores, None for nothing."""
    if stop.word == "take" and levels[stop.channel] < stop.k:
        return ("empty", stop.channel)
    if stop.word == "send":
        room = limits[stop.store]
        if room is not None and fill_at(stop, levels) + stop.k > room:
            return ("full", stop.store)
    if stop.word == "ended":
        return ("ended", None)
    return None


def fill_at(stop, levels):
    """How many messages are in the store of a stop."""
    if len(stop.sharing) == 1:
        return levels[stop.channel]
    return sum([levels[channel] for channel in stop.sharing])


def goes_at(stop, levels, limits):
    """How often the step of a stop can be done one time behind another; None if there is no bound."""
    if stop.word == "take":
        return levels[stop.channel] // stop.k
    if stop.word == "send":
        room = limits[stop.store]
        return None if room is None else (room - fill_at(stop, levels)) // stop.k
    return None if stop.word == "work" else 0


def next_spot(stop, done):
    """The index of the next stop and the rounds done there, behind a stop where so many are done."""
    for depth, total, first, fresh in stop.again:
        more = done[depth] + 1
        if total is None or more < total:
            return (first, done[:depth] + (more,) + fresh)
    return (stop.onward, done[:stop.kept] + stop.fresh)


def depth_that_goes_on(stop, done):
    """The depth of the loop that begins its next round behind a stop where so many are done; -1 for none."""
    for depth, total, _, _ in stop.again:
        if total is None or done[depth] + 1 < total:
            return depth
    return -1


def level_behind(stop, level):
    """The level of the channel of a stop behind its step."""
    return level + stop.k if stop.word == "send" else level - stop.k


def place_at(stop, done):
    """The place of a process at a stop with so many rounds done."""
    place = stop.path[:1]
    for many, index in zip(done, stop.path[1:]):
        place = place + (many, index)
    return place


def _told(parts, n):
    """A list of (part, path, totals) for each send, take and work that is not passed over at n."""
    found = []
    for index, part in enumerate(parts):
        if not is_round(part):
            found.append((part, (index,), ()))
            continue
        total = rounds(part[1], n) if part[0] == "loop" else None
        # A loop or a forever without such parts leaves nothing here: it is passed over.
        inner = [] if total == 0 else _told(inner_parts(part), n)
        for single, path, totals in inner:
            found.append((single, (index,) + path, (total,) + totals))
    return found


def _place_in(net, stop):
    """Write into a stop what the net tells of its channel."""
    stop.store = net.store_of(stop.channel)
    stop.sharing = tuple(net.channels_in(stop.store))
    if stop.word == "send":
        stop.rest_key = ("rest", stop.store)
        stop.fill_key = ("fill", stop.store)
    stop.peer = net.taker(stop.channel) if stop.word == "send" else net.sender(stop.channel)


def _link(stops, index):
    """Write into a stop how the program goes on behind it."""
    stop = stops[index]
    behind = stops[index + 1]
    depth = len(stop.totals)
    while depth > 0 and behind.path[:depth] != stop.path[:depth]:
        depth = depth - 1
        first = _first_within(stops, index, stop.path[:depth + 1])
        fresh = (0,) * (len(stops[first].totals) - depth - 1)
        stop.again.append((depth, stop.totals[depth], first, fresh))
    if stop.again and stop.again[0][1] is not None and stop.again[0][2] == index:
        stop.alone = stop.again[0][0]
    loops = [total for total in stop.totals if total is not None]
    stop.recurs = len(loops) > (1 if stop.alone >= 0 else 0)
    stop.onward = index + 1
    stop.kept = depth
    stop.fresh = (0,) * (len(behind.totals) - depth)


def _first_within(stops, index, head):
    """The index of the first stop within the loop whose path is head; the stop at index is in it."""
    first = index
    while first > 0 and stops[first - 1].path[:len(head)] == head:
        first = first - 1
    return first

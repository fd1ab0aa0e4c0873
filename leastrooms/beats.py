"""Beats: when each step of a net that goes on in rounds begins, and the pace of the whole."""

from math import gcd

from leastrooms.beating import rounds_of, steps_of_round
from leastrooms.errors import BadBeats, BadNumber, BadPace, NotSo
from leastrooms.rings import order_without_rings, pace_of, rise_of, slowest_ring
from leastrooms.rooms import check_rooms
from leastrooms.words import is_between, is_integer, is_tuple_of

MOST_ROUNDS = 200


class Beats:
    """A net that goes on in rounds, with rooms."""

    def __init__(self, net, rooms):
        events = events_in(net)
        check_rooms(net, rooms)
        waits = _waits_between(net, rooms, events)
        order = order_without_rings(len(events), waits)
        if order is None:
            raise NotSo(rooms)
        self.net = net
        self.rooms = rooms
        self._events = events
        self._waits = waits
        self._order = order
        self._lengths = [_length_of(part) for _, part in events]
        self._ring, self._heights = slowest_ring(_ring_of_first(events), waits, self._lengths)
        self.pace = pace_of(self._ring, self._lengths)

    @property
    def events(self):
        """The steps of one round of the net: tuples of a process and a part."""
        return list(self._events)

    @property
    def waits(self):
        """Tuples of an earlier and a later event, and how many rounds are between them, ascending."""
        return list(self._waits)

    def begins(self, rounds):
        """For each of so many rounds a list of the beats at which the events begin."""
        if not is_between(rounds, 0, MOST_ROUNDS):
            raise BadNumber(rounds)
        found = []
        for _ in range(rounds):
            found.append(_begins_behind(found, self._waits, self._order, self._lengths))
        return found


def rounds_in(net):
    """A dict from processes to the least rounds in which as many messages are sent as are taken."""
    return rounds_of(net)


def events_in(net):
    """The steps of one round of the net: tuples of a process and a part, in order."""
    rounds = rounds_of(net)
    found = []
    for process in net.processes:
        steps = steps_of_round(net.row(process).parts[0][1])
        found.extend([(process, part) for part in steps * rounds[process]])
    return found


def is_as_fast(one, other):
    """Whether a pace is not slower than another one."""
    for pace in (one, other):
        if not _is_pace(pace):
            raise BadPace(pace)
    return one[0] * other[1] <= other[0] * one[1]


def pace_paper(beats):
    """What shows others the pace: a ring that is so slow, and heights that no wait rises beyond."""
    _check_beats(beats)
    return ("pace", beats.pace, beats._ring, beats._heights)


def is_pace_paper(beats, thing):
    """Whether a value shows the pace."""
    _check_beats(beats)
    if not is_tuple_of(thing, "pace", 4):
        return False
    _, pace, ring, heights = thing
    if not _is_pace(pace) or gcd(pace[0], pace[1]) != 1 or not _is_ring(ring, beats._waits):
        return False
    if pace_of(ring, beats._lengths) != pace:
        return False
    if not isinstance(heights, tuple) or len(heights) != len(beats._events):
        return False
    if not all([is_integer(height) for height in heights]):
        return False
    return all([
        heights[wait[1]] >= heights[wait[0]] + rise_of(wait, beats._lengths, pace) for wait in beats._waits
    ])


def _check_beats(beats):
    if not isinstance(beats, Beats):
        raise BadBeats(beats)


def _is_pace(thing):
    """Whether a value is a tuple of two integers from 1 on."""
    if not isinstance(thing, tuple) or len(thing) != 2:
        return False
    return all([is_integer(number) and number >= 1 for number in thing])


def _is_ring(thing, waits):
    """Whether a value is a tuple of waits, each of which begins where the one ahead of it ends."""
    if not isinstance(thing, tuple) or not thing or not all([_is_wait(wait, waits) for wait in thing]):
        return False
    return all([wait[0] == ahead[1] for wait, ahead in zip(thing, thing[-1:] + thing[:-1])])


def _is_wait(thing, waits):
    if not isinstance(thing, tuple) or not all([is_integer(number) for number in thing]):
        return False
    return thing in waits


def _length_of(part):
    """How many beats a step lasts."""
    return part[1] if part[0] == "work" else 1


def _ring_of_first(events):
    """The waits of the first process for itself."""
    many = len([event for event in events if event[0] == events[0][0]])
    return [(at, at + 1, 0) for at in range(many - 1)] + [(many - 1, 0, 1)]


def _waits_between(net, rooms, events):
    """All waits, ascending, each once."""
    found = []
    for process in net.processes:
        own = [at for at, event in enumerate(events) if event[0] == process]
        found.extend([(ahead, at, 0) for ahead, at in zip(own, own[1:])])
        found.append((own[-1], own[0], 1))
    for channel in net.channels:
        sends = _messages_by(events, "send", channel)
        takes = _messages_by(events, "take", channel)
        first = net.first(channel)
        found.extend([_wait_for(sends, number - first, at) for number, at in _last_ones(takes)])
        room = rooms[channel]
        if room is not None:
            found.extend([_wait_for(takes, number + first - room, at) for number, at in _last_ones(sends)])
    return sorted(set(found))


def _messages_by(events, word, channel):
    """The event that moves each message of a channel in one round of the net, in order."""
    found = []
    for at, (_, part) in enumerate(events):
        if part[0] == word and part[1] == channel:
            found.extend([at] * part[2])
    return found


def _last_ones(moved):
    """Tuples of the number of the last message, from 1 on, that each event moves, and the event."""
    return [(number, at) for number, at in enumerate(moved, 1) if number == len(moved) or moved[number] != at]


def _wait_for(moved, number, later):
    """The wait of an event for the one that moves the message of a number, from 1 on in round 0."""
    distance, place = divmod(number - 1, len(moved))
    return (moved[place], later, -distance)


def _begins_behind(found, waits, order, lengths):
    """At which beats the events of the next round begin, behind the rounds that are found."""
    begins = [0] * len(lengths)
    before = [[] for _ in lengths]
    for earlier, later, distance in waits:
        before[later].append((earlier, distance))
    for event in order:
        for earlier, distance in before[event]:
            if distance <= len(found):
                begun = begins[earlier] if distance == 0 else found[len(found) - distance][earlier]
                begins[event] = max(begins[event], begun + lengths[earlier])
    return begins

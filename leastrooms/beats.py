"""Beats: when each step of a net that goes on in rounds begins, and the pace of the whole."""

from math import gcd

from leastrooms.beating import rounds_of
from leastrooms.errors import BadBeats, BadNumber, BadPace, NotSo
from leastrooms.rhythms import Rhythm, events_of
from leastrooms.rings import is_not_slower, is_pace, order_without_rings, pace_of, rise_of, slowest_ring
from leastrooms.rooms import check_rooms
from leastrooms.words import is_between, is_integer, is_tuple_of

MOST_ROUNDS = 200


class Beats:
    """A net that goes on in rounds, with rooms."""

    def __init__(self, net, rooms):
        rhythm = Rhythm(net)
        check_rooms(net, rooms)
        waits = rhythm.waits_with(dict(rooms.pairs()))
        order = order_without_rings(len(rhythm.round_events), waits)
        if order is None:
            raise NotSo(rooms)
        self.net = net
        self.rooms = rooms
        self._events = rhythm.round_events
        self._lengths = rhythm.lengths
        self._waits = waits
        self._order = order
        self._ring, self._heights = slowest_ring(rhythm.ring_of_first(), waits, self._lengths)
        self.pace = pace_of(self._ring, self._lengths)

    @property
    def events(self):
        """The steps of one round of the net: tuples of a process and a part."""
        return list(self._events)

    @property
    def waits(self):
        """Tuples of an earlier and a later event, and how many rounds are between them, ascending."""
        return list(self._waits)

    def begins(self, rounds):
        """For each of so many rounds a list of the beats at which the events begin."""
        if not is_between(rounds, 0, MOST_ROUNDS):
            raise BadNumber(rounds)
        found = []
        for _ in range(rounds):
            found.append(_begins_behind(found, self._waits, self._order, self._lengths))
        return found

    def told_ring(self):
        """Waits that are a ring with the pace."""
        return self._ring


def rounds_in(net):
    """A dict from processes to the least rounds in which as many messages are sent as are taken."""
    return rounds_of(net)


def events_in(net):
    """The steps of one round of the net: tuples of a process and a part, in order."""
    return events_of(net)


def is_as_fast(one, other):
    """Whether a pace is not slower than another one."""
    for pace in (one, other):
        if not is_pace(pace):
            raise BadPace(pace)
    return is_not_slower(one, other)


def pace_paper(beats):
    """What shows others the pace: a ring that is so slow, and heights that no wait rises beyond."""
    _check_beats(beats)
    return ("pace", beats.pace, beats.told_ring(), beats._heights)


def is_pace_paper(beats, thing):
    """Whether a value shows the pace."""
    _check_beats(beats)
    if not is_tuple_of(thing, "pace", 4):
        return False
    _, pace, ring, heights = thing
    if not is_pace(pace) or gcd(pace[0], pace[1]) != 1 or not _is_ring(ring, beats._waits):
        return False
    if pace_of(ring, beats._lengths) != pace:
        return False
    if not isinstance(heights, tuple) or len(heights) != len(beats._events):
        return False
    if not all([is_integer(height) for height in heights]):
        return False
    return all([
        heights[wait[1]] >= heights[wait[0]] + rise_of(wait, beats._lengths, pace) for wait in beats._waits
    ])


def _check_beats(beats):
    if not isinstance(beats, Beats):
        raise BadBeats(beats)


def _is_ring(thing, waits):
    """Whether a value is a tuple of waits, each of which begins where the one ahead of it ends."""
    if not isinstance(thing, tuple) or not thing or not all([_is_wait(wait, waits) for wait in thing]):
        return False
    return all([wait[0] == ahead[1] for wait, ahead in zip(thing, thing[-1:] + thing[:-1])])


def _is_wait(thing, waits):
    if not isinstance(thing, tuple) or not all([is_integer(number) for number in thing]):
        return False
    return thing in waits


def _begins_behind(found, waits, order, lengths):
    """At which beats the events of the next round begin, behind the rounds that are found."""
    begins = [0] * len(lengths)
    before = [[] for _ in lengths]
    for earlier, later, distance in waits:
        before[later].append((earlier, distance))
    for event in order:
        for earlier, distance in before[event]:
            if distance <= len(found):
                begun = begins[earlier] if distance == 0 else found[len(found) - distance][earlier]
                begins[event] = max(begins[event], begun + lengths[earlier])
    return begins

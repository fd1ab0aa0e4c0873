"""Rings: rows of waits that lead back to where they begin, and which of them takes longest."""

from math import gcd

from leastrooms.words import is_integer


def in_lowest_terms(above, below):
    """A fraction as a tuple of two integers."""
    common = gcd(above, below)
    return above // common, below // common


def pace_of(ring, lengths):
    """The beats of the events from which the waits of a ring lead, by their distances, in lowest terms."""
    return in_lowest_terms(sum([lengths[wait[0]] for wait in ring]), sum([wait[2] for wait in ring]))


def slowest_ring(ring, waits, lengths):
    """A tuple of waits that are a ring with the greatest pace, and heights that show this; ring is any one."""
    heights, slower = _climb(waits, lengths, pace_of(ring, lengths))
    while slower:
        ring = slower
        heights, slower = _climb(waits, lengths, pace_of(ring, lengths))
    return tuple(ring), tuple(heights)


def order_without_rings(many, waits):
    """All events such that each stands behind those that it waits for in its own round; None if there is a ring."""
    order = []
    left = [0] * many
    behind = [[] for _ in range(many)]
    for earlier, later, distance in waits:
        if distance == 0:
            left[later] = left[later] + 1
            behind[earlier].append(later)
    ready = [event for event in range(many) if left[event] == 0]
    while ready:
        event = ready.pop()
        order.append(event)
        for later in behind[event]:
            left[later] = left[later] - 1
            if left[later] == 0:
                ready.append(later)
    return order if len(order) == many else None


def is_pace(thing):
    """Whether a value is a tuple of two integers from 1 on."""
    if not isinstance(thing, tuple) or len(thing) != 2:
        return False
    return all([is_integer(number) and number >= 1 for number in thing])


def is_not_slower(one, other):
    """Whether a pace is not slower than another one."""
    return one[0] * other[1] <= other[0] * one[1]


def rise_of(wait, lengths, pace):
    """By how much a wait rises above a pace: above 0 in all, around a ring that is slower."""
    beats, rounds = pace
    return lengths[wait[0]] * rounds - wait[2] * beats


def _climb(waits, lengths, pace):
    """Heights that no wait rises beyond, and an empty list; or a ring that is slower than the pace."""
    heights = [0] * len(lengths)
    before = [None] * len(lengths)
    rises = [(wait, wait[0], wait[1], rise_of(wait, lengths, pace)) for wait in waits]
    is_rising = True
    ring = []
    while is_rising and not ring:
        is_rising = False
        for wait, earlier, later, rise in rises:
            if heights[earlier] + rise > heights[later]:
                heights[later] = heights[earlier] + rise
                before[later] = wait
                is_rising = True
        # Where waits rise without end, they do so around a ring, and it shows long ahead of that end.
        ring = _ring_among(before) if is_rising else []
    return heights, ring


def _ring_among(before):
    """The ring to which some waits lead back; an empty list if there is none. before: a wait or None for each event."""
    reached = [-1] * len(before)
    for start in range(len(before)):
        event = start
        while reached[event] < 0 and before[event] is not None:
            reached[event] = start
            event = before[event][0]
        if reached[event] == start:
            return _ring_behind(before, event)
        reached[event] = start
    return []


def _ring_behind(before, event):
    """The ring that leads back to an event."""
    ring = [before[event]]
    while ring[-1][0] != event:
        ring.append(before[ring[-1][0]])
    return ring[::-1]

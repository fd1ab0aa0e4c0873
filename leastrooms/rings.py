"""Rings: rows of waits that lead back to where they begin, and which of them takes longest."""

from math import gcd


def in_lowest_terms(above, below):
    """A fraction as a tuple of two integers."""
    common = gcd(above, below)
    return above // common, below // common


def pace_of(ring, lengths):
    """The beats of the events from which the waits of a ring lead, by their distances, in lowest terms."""
    return in_lowest_terms(sum([lengths[wait[0]] for wait in ring]), sum([wait[2] for wait in ring]))


def slowest_ring(ring, waits, lengths):
    """A tuple of waits that are a ring with the greatest pace, and heights that show this; ring is any one."""
    heights, slower = _climb(waits, lengths, pace_of(ring, lengths))
    while slower:
        ring = slower
        heights, slower = _climb(waits, lengths, pace_of(ring, lengths))
    return tuple(ring), tuple(heights)


def order_without_rings(many, waits):
    """All events such that each stands behind those that it waits for in its own round; None if there is a ring."""
    order = []
    left = [0] * many
    for _, later, distance in waits:
        left[later] = left[later] + (1 if distance == 0 else 0)
    ready = [event for event in range(many) if left[event] == 0]
    while ready:
        event = ready.pop()
        order.append(event)
        for earlier, later, distance in waits:
            if earlier == event and distance == 0:
                left[later] = left[later] - 1
                if left[later] == 0:
                    ready.append(later)
    return order if len(order) == many else None


def rise_of(wait, lengths, pace):
    """By how much a wait rises above a pace: above 0 in all, around a ring that is slower."""
    beats, rounds = pace
    return lengths[wait[0]] * rounds - wait[2] * beats


def _climb(waits, lengths, pace):
    """Heights that no wait rises beyond, and an empty list; or a ring that is slower than the pace."""
    heights = [0] * len(lengths)
    before = [None] * len(lengths)
    last = None
    for _ in range(len(lengths) + 1):
        last = None
        for wait in waits:
            earlier, later, _ = wait
            height = heights[earlier] + rise_of(wait, lengths, pace)
            if height > heights[later]:
                heights[later] = height
                before[later] = wait
                last = later
        if last is None:
            return heights, []
    return heights, _ring_behind(before, last)


def _ring_behind(before, event):
    """The ring to which the waits behind an event lead."""
    for _ in before:
        event = before[event][0]
    ring = [before[event]]
    while ring[0][0] != event:
        ring = [before[ring[0][0]]] + ring
    return ring

"""Trades: which rooms buy which pace."""

from heapq import heappop, heappush

from leastrooms.beating import rounds_of
from leastrooms.beats import Beats
from leastrooms.corners import least_rooms
from leastrooms.errors import BadNumber, BadPace, TooLong, TooMany
from leastrooms.rhythms import Rhythm
from leastrooms.rings import is_not_slower, is_pace, pace_of, slowest_ring
from leastrooms.rooms import without_limit
from leastrooms.searches import MOST_TOLD
from leastrooms.vectors import is_nowhere_greater, numbers_of, rooms_from
from leastrooms.words import is_between

MOST_LOOKED_AT = 400
MOST_TOTAL = 10 ** 6


class Trading:
    """The rooms from the least ones on, each with its pace, as far as more room can make something faster."""

    def __init__(self, net):
        self.rhythm = Rhythm(net)
        # Without limits no ring leads through a room, so this one is there with all rooms.
        self.ring = Beats(net, without_limit(net)).told_ring()
        self.best = pace_of(self.ring, self.rhythm.lengths)
        self.paces = {}
        self.finest = []
        self.queue = []
        self.known = {}
        for rooms in least_rooms(net, 0):
            self._wait_for(numbers_of(rooms))
        while self.queue:
            _, numbers = heappop(self.queue)
            self._look_at(numbers)

    def best_trades(self):
        """Tuples of a pace and numbers; none that are less somewhere and nowhere greater are as fast; ascending."""
        return [(self.paces[numbers], numbers) for numbers in sorted(self.paces) if self._is_best(numbers)]

    def _wait_for(self, numbers):
        """Look at these later, behind those with a lesser sum."""
        if numbers not in self.known:
            self.known[numbers] = True
            heappush(self.queue, (sum(numbers), numbers))
        if len(self.known) > MOST_LOOKED_AT:
            raise TooLong()

    def _look_at(self, numbers):
        if any([is_nowhere_greater(one, numbers) for one in self.finest]):
            return
        stores = self.rhythm.net.stores
        waits = self.rhythm.waits_with(dict(zip(stores, numbers)))
        ring, _ = slowest_ring(self.ring, waits, self.rhythm.lengths)
        pace = pace_of(ring, self.rhythm.lengths)
        self.paces[numbers] = pace
        if pace == self.best:
            self.finest.append(numbers)
            return
        # Only more room somewhere in this ring makes anything faster.
        growing = [self.rhythm.store_between(wait) for wait in ring]
        for at, store in enumerate(stores):
            if store in growing:
                self._wait_for(numbers[:at] + (numbers[at] + 1,) + numbers[at + 1:])

    def _is_best(self, numbers):
        pace = self.paces[numbers]
        return not any([
            other != numbers and is_nowhere_greater(other, numbers) and is_not_slower(self.paces[other], pace)
            for other in self.paces
        ])


def fastest(net):
    """The pace without limits."""
    return Beats(net, without_limit(net)).pace


def trades(net):
    """All best trades: tuples of a pace and Rooms than which no lesser ones are as fast, in the order of the Rooms."""
    found = Trading(net).best_trades()
    if len(found) > MOST_TOLD:
        raise TooMany()
    return [(pace, rooms_from(net.stores, numbers)) for pace, numbers in found]


def pace_at(net, rooms):
    """The pace with rooms."""
    return Beats(net, rooms).pace


def best_within(net, total):
    """Of the fastest trades with Rooms of at most this total those with the least total, in order."""
    rounds_of(net)
    if not is_between(total, 0, MOST_TOTAL):
        raise BadNumber(total)
    within = [trade for trade in trades(net) if trade[1].total <= total]
    swift = [trade for trade in within if all([is_not_slower(trade[0], pace) for pace, _ in within])]
    return _with_least_total(swift)


def room_for(net, pace):
    """Of the trades that are as fast as a pace those with the least total, in order."""
    rounds_of(net)
    if not is_pace(pace):
        raise BadPace(pace)
    return _with_least_total([trade for trade in trades(net) if is_not_slower(trade[0], pace)])


def _with_least_total(found):
    totals = [rooms.total for _, rooms in found]
    return [trade for trade, total in zip(found, totals) if total == min(totals)]

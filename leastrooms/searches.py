"""Searches: all least rooms and all corners of a net at n, each found by runs."""

from leastrooms.ends import corner_of, knots
from leastrooms.errors import TooLong, TooMany
from leastrooms.moments import begin, with_rooms
from leastrooms.rooms import LARGEST_ROOM, NO_LIMIT, least_possible
from leastrooms.vectors import is_nowhere_greater, least_beyond, least_numbers, rooms_from
from leastrooms.walks import walk_from

MOST_TOLD = 60
TRIED_ONE_BY_ONE = 3
# Which number is tried does not matter, so another one is taken where a run is too long.
NEAR = (0, 1, -1, 2, -2, 5, -5, 11, -11)


class Search:
    """The least rooms and the corners of a net at n, as tuples of numbers; TooMany if there are more than 60."""

    def __init__(self, net, n):
        self.net = net
        self.begun = begin(net, n, least_possible(net))
        self.floor = least_numbers(net)
        self.enough = []
        self.corners = []
        left = [self.floor]
        while left:
            for numbers in left:
                self._look_at(numbers)
            # Beyond all corners that are known lie all enough rooms; among the least there, all least ones.
            above = least_beyond(self.corners, self.floor, MOST_TOLD + 1)
            left = [numbers for numbers in above if numbers not in self.enough]
        self.enough = sorted(self.enough)
        self.corners = sorted(self.corners)

    def _look_at(self, numbers):
        """Find out whether these are enough; if not, find a corner that is nowhere less."""
        if any([is_nowhere_greater(numbers, corner) for corner in self.corners]):
            return
        walk = self._walk(numbers)
        if walk.waits_for_room():
            self.corners.append(self._extended(self._stuck(walk, 0)))
        else:
            self.enough.append(numbers)
        if max(len(self.enough), len(self.corners)) > MOST_TOLD:
            raise TooMany()

    def _walk(self, numbers):
        # Where only the end counts, the eager walk is the one that seldom goes too far.
        return walk_from(with_rooms(self.begun, rooms_from(self.net.stores, numbers)), True)

    def _stuck(self, walk, at):
        """The numbers up to which a knot of a walk stays: the knot for which the one at an index is greatest."""
        found = []
        for knot in knots(walk.moment, walk.moving):
            corner = corner_of(walk.moment, knot, walk.moving)
            # A knot may stay beyond the largest room, but not without limit.
            near = {store: min(corner[store], LARGEST_ROOM) for store in corner}
            found.append(tuple([near.get(store, NO_LIMIT) for store in self.net.stores]))
        return max(found, key=lambda numbers: numbers[at])

    def _extended(self, numbers):
        """A corner that is nowhere less than these, which are not enough."""
        for at in range(len(numbers)):
            numbers = self._extended_at(numbers, at)
        return numbers

    def _extended_at(self, numbers, at):
        """Numbers that are not enough and nowhere less than these, but enough as soon as more is at this index."""
        for _ in range(TRIED_ONE_BY_ONE):
            if numbers[at] == NO_LIMIT:
                return numbers
            walk = self._walk(_with(numbers, at, numbers[at] + 1))
            if not walk.waits_for_room():
                return numbers
            numbers = self._stuck(walk, at)
        walk = self._walk(_with(numbers, at, NO_LIMIT))
        if walk.waits_for_room():
            return self._stuck(walk, at)
        return self._extended_below(numbers, at, self._most_at(walk, at, NO_LIMIT))

    def _extended_below(self, numbers, at, high):
        """The same as _extended_at, where high is enough at this index."""
        # The answer is often near to one of both ends, so the steps from there are small at first.
        steps = [1, 1]
        is_above = True
        while high - numbers[at] > 1:
            tried = high - steps[0] if is_above else numbers[at] + steps[1]
            if 4 * max(steps) >= high - numbers[at]:
                tried = (high + numbers[at]) // 2
            tried, walk = self._walk_near(numbers, at, tried, high)
            if walk.waits_for_room():
                numbers = self._stuck(walk, at)
            else:
                high = self._most_at(walk, at, tried)
            steps[0 if is_above else 1] = 2 * steps[0 if is_above else 1]
            # Nothing is near to the greatest room but this room itself.
            is_above = not is_above and high < LARGEST_ROOM
        return numbers

    def _walk_near(self, numbers, at, tried, high):
        """A number near to the one that is to be tried with which a run is not too long, and this run."""
        for near in NEAR:
            if numbers[at] < tried + near < high:
                try:
                    return tried + near, self._walk(_with(numbers, at, tried + near))
                except TooLong:
                    continue
        raise TooLong()

    def _most_at(self, walk, at, number):
        """A number that is enough at an index where this one is, the least one that the run tells."""
        most = walk.most_in(self.net.stores[at])
        return number if most is None else min(number, max(most, self.floor[at]))


def _with(numbers, at, number):
    return numbers[:at] + (number,) + numbers[at + 1:]

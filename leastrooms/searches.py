"""Searches: all least rooms and all corners of a net at n, each found by runs."""

from leastrooms.ends import corners_at
from leastrooms.errors import TooLong, TooMany
from leastrooms.moments import begin, begin_along, with_limits
from leastrooms.nets import check_net
from leastrooms.rooms import LARGEST_ROOM, NO_LIMIT, without_limit
from leastrooms.segments import segments_of
from leastrooms.vectors import are_possible, greatest_of, is_nowhere_greater, least_beyond, least_numbers, vector_from
from leastrooms.walks import Walk, walk_from
from leastrooms.words import check_number

MOST_TOLD = 60
# Which number is tried does not matter, so another one is taken where a run is too long.
NEAR = (0, 1, -1, 2, -2, 5, -5, 11, -11)


class Search:
    """The least rooms and the corners of a net at n, as tuples of numbers; TooMany if there are more than 60.

    likely: what may be corners.
    """

    def __init__(self, net, n, likely=()):
        check_net(net)
        check_number(n)
        segments = segments_of(net, n)
        self.corners = _corners_of_segments(net, n, segments, likely if len(segments) == 1 else ())
        if self.corners is None:
            self.corners = Probe(begin(net, n, without_limit(net)), likely).corners
        self.enough = least_beyond(self.corners, least_numbers(net), MOST_TOLD + 1)
        if max(len(self.enough), len(self.corners)) > MOST_TOLD:
            raise TooMany()


class Probe:
    """All corners from a moment on, found by runs; TooMany if there are more than 60, or as many least rooms."""

    def __init__(self, begun, likely):
        self.net = begun.net
        self.begun = begun
        self.floor = least_numbers(begun.net)
        self.enough = []
        self.corners = []
        # Rooms that are known not to be enough, up to these, and others that are known to be enough from these on.
        self.short = []
        self.wide = []
        for numbers in likely:
            self._try(numbers)
        left = [self.floor]
        while left:
            for numbers in left:
                self._look_at(numbers)
            # Beyond all corners that are known lie all enough rooms; among the least there, all least ones.
            above = least_beyond(self.short, self.floor, MOST_TOLD + 1)
            left = [numbers for numbers in above if numbers not in self.enough]
        self.corners = greatest_of(self.short)

    def _try(self, numbers):
        """Look whether some numbers that are only likely are not enough; if so, keep up to which others."""
        if not are_possible(numbers, self.floor):
            return
        try:
            short = self._short_of(numbers)
        except TooLong:
            return
        if short is not None:
            self.short.append(short)

    def _look_at(self, numbers):
        """Find out whether these are enough; if not, find a corner that is nowhere less."""
        if any([is_nowhere_greater(numbers, short) for short in self.short]):
            return
        short = self._short_of(numbers)
        if short is None:
            self.enough.append(numbers)
        else:
            self.corners.append(self._extended(short))
            self.short.append(self.corners[-1])
        if max(len(self.enough), len(self.corners)) > MOST_TOLD:
            raise TooMany()

    def _short_of(self, numbers):
        """Numbers that are not enough and nowhere less than these; None if these are enough."""
        if any([is_nowhere_greater(wide, numbers) for wide in self.wide]):
            return None
        walk = self._walk(numbers)
        if walk.waits_for_room():
            return self._stuck(walk, 0)
        self._needed(walk)
        return None

    def _needed(self, walk):
        """The numbers that are enough for a walk that waits for no room."""
        fills = walk.most_held()
        most = [fills.get(store, 0) for store in self.net.stores]
        wide = tuple([NO_LIMIT if fill is None else max(fill, least) for fill, least in zip(most, self.floor)])
        self.wide.append(wide)
        return wide

    def _walk(self, numbers):
        # Where only the end counts, the eager walk is the one that seldom goes too far.
        return walk_from(self._begun_with(numbers), True)

    def _stuck(self, walk, at):
        """The numbers up to which a knot of a walk stays: the knot for which the one at an index is greatest."""
        found = []
        for corner in corners_at(walk.moment, walk.moving):
            # A knot may stay beyond the largest room, but not without limit.
            near = {store: min(corner[store], LARGEST_ROOM) for store in corner}
            found.append(tuple([near.get(store, NO_LIMIT) for store in self.net.stores]))
        return max(found, key=lambda numbers: numbers[at])

    def _extended(self, numbers):
        """A corner that is nowhere less than these, which are not enough."""
        for at in range(len(numbers)):
            numbers = self._extended_at(numbers, at)
        return numbers

    def _extended_at(self, numbers, at):
        """Numbers that are not enough and nowhere less than these, but enough as soon as more is at this index."""
        if numbers[at] == NO_LIMIT:
            return numbers
        walk = self._slow_walk(_with(numbers, at, NO_LIMIT), at)
        if walk.waits_for_room():
            return self._stuck(walk, at)
        return self._extended_below(numbers, at, self._needed(walk)[at])

    def _slow_walk(self, numbers, at):
        """A walk in which as little as possible is in the store at an index, if there is one that is not too long."""
        try:
            return Walk(self._begun_with(numbers), True, False, self.net.stores[at])
        except TooLong:
            return self._walk(numbers)

    def _begun_with(self, numbers):
        return with_limits(self.begun, dict(zip(self.net.stores, vector_from(numbers))))

    def _extended_below(self, numbers, at, high):
        """The same as _extended_at, where high is enough at this index."""
        # The answer is often near to one of both ends, so the steps from there are small at first.
        steps = [1, 1]
        is_above = True
        while high - numbers[at] > 1:
            tried = high - steps[0] if is_above else numbers[at] + steps[1]
            if 4 * max(steps) >= high - numbers[at]:
                tried = (high + numbers[at]) // 2
            tried, walk = self._walk_near(numbers, at, tried, high)
            if walk.waits_for_room():
                numbers = self._stuck(walk, at)
            else:
                high = min(tried, self._needed(walk)[at])
            steps[0 if is_above else 1] = 2 * steps[0 if is_above else 1]
            # Nothing is near to the greatest room but this room itself.
            is_above = not is_above and high < LARGEST_ROOM
        return numbers

    def _walk_near(self, numbers, at, tried, high):
        """A number near to the one that is to be tried with which a run is not too long, and this run."""
        for near in NEAR:
            if numbers[at] < tried + near < high:
                try:
                    return tried + near, self._walk(_with(numbers, at, tried + near))
                except TooLong:
                    continue
        raise TooLong()


def _corners_of_segments(net, n, segments, likely):
    """The corners of a net, by its segments; None if it can't be told by them."""
    found = []
    for segment in segments:
        try:
            start = begin_along(net, n, segment.programs, segment.levels)
            if segment.must_end and not _comes_to_its_end(start):
                return None
            corners = Probe(start, likely).corners
        except (TooLong, TooMany):
            # What are too many here may be few beside those of other segments.
            if len(segments) == 1:
                raise
            return None
        found.extend(corners)
    return greatest_of(found)


def _comes_to_its_end(start):
    """Whether all processes come to their ends, if there is room enough."""
    last = walk_from(start, True).moment
    return all([last.next_part(process) is None for process in last.net.processes])


def _with(numbers, at, number):
    return numbers[:at] + (number,) + numbers[at + 1:]

"""Outcomes: what runs of a net tell at n with rooms, each run made once."""

from leastrooms.ends import knots
from leastrooms.errors import TooLong
from leastrooms.moments import with_limits
from leastrooms.vectors import are_possible, greatest_of, least_beyond, least_numbers, vector_from
from leastrooms.walks import Walk, walk_from


class Outcome:
    """What a run tells: whether the rooms are too small, its items, and then its knot; no content if it is too long."""

    def __init__(self, is_short, content, knot):
        self.is_short = is_short
        self.content = content
        self.knot = knot


class Outcomes:
    """The runs of a net, by n and rooms as tuples of numbers that are possible."""

    def __init__(self, grounds):
        self.grounds = grounds
        self.floor = least_numbers(grounds.net)
        self._kept = {}

    def at(self, n, numbers, is_eager):
        """The Outcome of a walk of this kind."""
        key = (n, numbers, is_eager)
        if key not in self._kept:
            self._kept[key] = self._run(n, numbers, is_eager)
        return self._kept[key]

    def are_short(self, n, numbers):
        """Whether these are not enough."""
        for is_eager in (False, True):
            outcome = self.at(n, numbers, is_eager)
            if outcome.content is not None:
                return outcome.is_short
        return walk_from(self._begun_with(n, numbers)).waits_for_room()

    def tell_all(self, n, enough, corners):
        """Whether these are all least numbers and all corners; fewer runs show this than find them."""
        if not all([are_possible(numbers, self.floor) for numbers in corners + enough]):
            return False
        if least_beyond(corners, self.floor, len(enough) + 1) != enough or greatest_of(corners) != corners:
            return False
        for told, is_short in ((corners, True), (enough, False)):
            for numbers in told:
                if self.are_short(n, numbers) != is_short:
                    return False
        return True

    def _run(self, n, numbers, is_eager):
        try:
            walk = Walk(self._begun_with(n, numbers), is_eager)
        except TooLong:
            return Outcome(False, None, ())
        is_short = walk.waits_for_room()
        knot = tuple(knots(walk.moment, walk.moving)[0]) if is_short else ()
        return Outcome(is_short, tuple(walk.told_items()), knot)

    def _begun_with(self, n, numbers):
        return with_limits(self.grounds.at(n), dict(zip(self.grounds.net.stores, vector_from(numbers))))

"""Covers: whether lined papers tell all least rooms and all corners, at all m."""

from leastrooms.rooms import LARGEST_ROOM, NO_LIMIT
from leastrooms.straight import numbers_at
from leastrooms.vectors import is_nowhere_greater, least_beyond

# More m than these are not looked at: the answer is no, then.
MOST_LOOKED_AT = 3000


def is_covered(floor, last, enough, stuck):
    """Whether tuples of Lines and None are, at each m up to the last, all least numbers and all greatest below them."""
    looked_at = _all_looked_at(floor, last, enough, stuck)
    if len(looked_at) > MOST_LOOKED_AT:
        return False
    return all([_is_covered_at(floor, m, enough, stuck) for m in looked_at])


def _all_looked_at(floor, last, enough, stuck):
    """Each m from which on, till the next one, the same numbers of a store are less, equal or greater."""
    found = [0]
    for at in range(len(floor)):
        # The answer depends on these alone: on which is greater, not by how much.
        told = [(floor[at], 0), (LARGEST_ROOM, 0), (NO_LIMIT, 0)]
        for vector in enough:
            told.extend([] if vector[at] is None else [(vector[at].at_zero, vector[at].slope)])
        for vector in stuck:
            line = vector[at]
            told.extend([] if line is None else [(line.at_zero, line.slope), (line.at_zero + 1, line.slope)])
        found.extend(_crossings(sorted(set(told)), last))
    return sorted(set(found))


def _crossings(told, last):
    """Each m at which two of these lines cross, or behind which they do, and the next one."""
    found = []
    for at_zero, slope in told:
        for other, further in told:
            if slope > further:
                m, rest = divmod(other - at_zero, slope - further)
                found.extend([m + 1] if rest != 0 else [m, m + 1])
    return [m for m in found if 0 < m <= last]


def _is_covered_at(floor, m, enough, stuck):
    least = sorted([numbers_at(vector, m) for vector in enough])
    greatest = [numbers_at(vector, m) for vector in stuck]
    if least_beyond(greatest, floor, len(least) + 1) != least:
        return False
    return all([
        not is_nowhere_greater(one, other)
        for at, one in enumerate(greatest) for further, other in enumerate(greatest) if at != further
    ])

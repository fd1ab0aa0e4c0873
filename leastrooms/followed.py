"""How items are followed: each step, and each repetition by its first and its last go."""

from leastrooms.stops import depth_that_goes_on
from leastrooms.tracks import change_since, is_right_without_end, merged, most_goes, stretched


class Followed:
    """A step that was followed, or an item: what must be alike where a course is told for many n at once.

    route: of a step its process, the indexes of its parts and those behind it, and the depth of the loop
    that begins its next round; None of an item. goes: its K; change: what one go of it changes.
    """

    def __init__(self, route, goes, change):
        self.route = route
        self.goes = goes
        self.change = change

    def is_like(self, other):
        """Whether another one, of the same step or item at another n, goes the same way."""
        if self.route is not None:
            return self.route == other.route
        return self.goes == other.goes or self.change.is_like(other.change)


def follow_item(track, item, trace):
    """Do an item, add all that was followed to the trace, and return the slacks of the item.

    None if it is not right. Behind an item without end one go is done.
    """
    if isinstance(item, str):
        if item not in track.spots or track.reason_of(item) is not None:
            return None
        return _step(track, item, trace)
    spots, levels = track.marked()
    slacks = {}
    for inner in item[2]:
        more = follow_item(track, inner, trace)
        if more is None:
            return None
        slacks = merged([slacks, more])
    change = change_since(track, spots, levels, track.spots)
    if change is None or not _may_repeat(track, spots, change, slacks, item[1]):
        return None
    trace.append(Followed(None, item[1], change))
    if item[1] is not None:
        track.shift(change, item[1] - 1)
        slacks = stretched(slacks, change, item[1])
    return slacks


def _step(track, process, trace):
    stop = track.stop_of(process)
    _, done = track.spots[process]
    slacks = track.step(process)
    route = (process, stop.path, track.stop_of(process).path, depth_that_goes_on(stop, done))
    trace.append(Followed(route, 0, None))
    return slacks


def _may_repeat(track, spots, change, slacks, goes):
    if goes is None:
        return is_right_without_end(track, change)
    most = most_goes(track, spots, change, slacks)
    return most is None or goes <= most

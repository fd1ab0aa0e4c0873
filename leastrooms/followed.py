"""How items are followed: each step, and each repetition by its first and its last go."""

from leastrooms.tracks import change_since, is_right_without_end, merged, most_goes, stretched


def follow_item(track, item):
    """Do an item, and return its slacks; None if it is not right. Behind an item without end one go is done."""
    if isinstance(item, str):
        if item not in track.spots or track.reason_of(item) is not None:
            return None
        return track.step(item)
    mark = track.marked()
    slacks = {}
    for inner in item[2]:
        more = follow_item(track, inner)
        if more is None:
            return None
        slacks = merged(slacks, more)
    change = change_since(track, mark, track.spots)
    if change is None or not _may_repeat(track, mark, change, slacks, item[1]):
        return None
    if item[1] is not None:
        track.shift(change, item[1] - 1)
        slacks = stretched(slacks, change, item[1])
    return slacks


def _may_repeat(track, mark, change, slacks, goes):
    if goes is None:
        return is_right_without_end(track, change)
    most = most_goes(track, mark, change, slacks)
    return most is None or goes <= most

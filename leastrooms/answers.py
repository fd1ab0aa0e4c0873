"""Answers: what a console tells of a net, n and rooms, as texts."""

from leastrooms.corners import corners, least_rooms, why_not
from leastrooms.runs import run


def told_least(net, n):
    """The least rooms."""
    return _all_told(least_rooms(net, n))


def told_corners(net, n):
    """The corners."""
    return _all_told(corners(net, n))


def told_enough(net, n, rooms):
    """Whether the rooms are enough, and if not, a corner that shows it."""
    corner = why_not(net, n, rooms)
    return "yes" if corner is None else f"no {_told_rooms(corner)}"


def told_ends(net, n, rooms):
    """The state of each process in the end."""
    far = run(net, n, rooms)
    return ", ".join([f"{process} {far.state(process)}" for process in net.processes])


def told_levels(moment):
    """How many messages each channel has."""
    return ", ".join([f"{channel} {moment.level(channel)}" for channel in moment.net.channels]) or "none"


def told_ready(moment):
    """The processes that can do a step."""
    return " ".join(moment.can()) or "none"


def told_wait(word, value):
    """What a process waits for."""
    return word if value is None else f"{word} {value}"


def _all_told(found):
    return " | ".join([_told_rooms(rooms) for rooms in found]) if found else "none"


def _told_rooms(rooms):
    told = ["=".join([store, _told_room(room)]) for store, room in rooms.pairs()]
    return " ".join(told) or "empty"


def _told_room(room):
    return "-" if room is None else str(room)

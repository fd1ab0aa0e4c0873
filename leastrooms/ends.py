"""Ends: where all steps lead, and who waits there for whom."""

from leastrooms.errors import BadGroup, BadNumber, NoKnot, TooLong
from leastrooms.moments import Play, waits_at
from leastrooms.words import is_among, is_between

MOST_STEPS = 10 ** 6


def steps_by_turns(moment):
    """Yield processes: one step of each that can do it, in their order, as long as some step is possible."""
    play = Play(moment)
    done = play.sweep()
    while done:
        yield from done
        done = play.sweep()


def end_of(moment, most=10000):
    """The moment behind all steps; TooLong if they are more than most."""
    if not is_between(most, 0, MOST_STEPS):
        raise BadNumber(most)
    play = Play(moment)
    left = most
    done = play.sweep()
    while done:
        left = left - len(done)
        if left < 0:
            raise TooLong()
        done = play.sweep()
    return play.now()


def lost(moment, movers=()):
    """The processes that more room never helps, ascending; movers are those that go on for ever."""
    _check_movers(moment, movers)
    return _lost(moment.net, waits_at(moment), movers)


def is_knot(moment, thing, movers=()):
    """Whether a value is a list of processes, ascending, that are a knot."""
    _check_movers(moment, movers)
    return _is_knot(thing, _needs(moment, waits_at(moment), movers))


def knots(moment, movers=()):
    """All knots that contain no smaller knot, each ascending, in the order of their first members."""
    _check_movers(moment, movers)
    return _knots(_needs(moment, waits_at(moment), movers))


def corner_of(moment, knot, movers=()):
    """For each store in which a member of a knot waits for room, the room up to which it still waits."""
    _check_movers(moment, movers)
    waits = waits_at(moment)
    if not _is_knot(knot, _needs(moment, waits, movers)):
        raise NoKnot(knot)
    return _corner_of(moment, waits, knot)


def corners_at(moment, movers):
    """For each knot that contains no smaller knot what corner_of tells; movers are known to be some."""
    waits = waits_at(moment)
    return [_corner_of(moment, waits, knot) for knot in _knots(_needs(moment, waits, movers))]


def helpers_of(moment, reason):
    """The processes that could end a wait: the sender, or the takers of what is in the store."""
    word, name = reason
    if word == "empty":
        return [moment.net.sender(name)]
    holding = [channel for channel in moment.net.channels_in(name) if moment.level(channel) > 0]
    takers = [moment.net.taker(channel) for channel in holding]
    return [taker for taker in takers if taker is not None]


def _check_movers(moment, movers):
    """Raise BadGroup if movers are no list or tuple of different processes of the moment's net."""
    if not isinstance(movers, (list, tuple)):
        raise BadGroup(movers)
    if not all([is_among(process, moment.net.processes) for process in movers]) or _has_twice(movers):
        raise BadGroup(movers)


def _has_twice(words):
    return len(set(words)) < len(words)


def _lost(net, waits, movers):
    # The greatest such group: all that may be in it, less those that someone outside could help,
    # again and again.
    group = [process for process in net.processes if process not in movers]
    stays = _beyond_help(net, waits, group, movers)
    while stays != group:
        group = stays
        stays = _beyond_help(net, waits, group, movers)
    return group


def _beyond_help(net, waits, group, movers):
    """Those of a group that have ended, or wait for messages that none but movers and the group could send."""
    found = []
    for process in group:
        reason = waits[process]
        if reason is None or reason[0] == "full":
            continue
        if reason[0] == "ended" or _sender_in(net, reason[1], movers, group):
            found.append(process)
    return found


def _sender_in(net, channel, movers, group):
    """Whether a channel has no sender, or one among the movers or the group."""
    sender = net.sender(channel)
    return sender is None or sender in movers or sender in group


def _needs(moment, waits, movers):
    """A dict of each process that waits, is no mover and not lost, and those that are in each knot with it."""
    gone = _lost(moment.net, waits, movers) + list(movers)
    needs = {}
    for process in moment.net.processes:
        reason = waits[process]
        if process not in gone and reason is not None:
            needs[process] = [helper for helper in helpers_of(moment, reason) if helper not in gone]
    return needs


def _knots(needs):
    groups = {process: _closed_group(process, needs) for process in needs}
    found = []
    for process, group in groups.items():
        if group and process == group[0] and all([groups[member] == group for member in group]):
            found.append(group)
    return found


def _is_knot(thing, needs):
    if not isinstance(thing, list) or not thing:
        return False
    if not all([is_among(process, needs) for process in thing]):
        return False
    if thing != sorted(thing) or _has_twice(thing):
        return False
    return all([helper in thing for process in thing for helper in needs[process]])


def _corner_of(moment, waits, knot):
    corner = {}
    for process in knot:
        word, store = waits[process]
        if word == "full":
            _, _, k = moment.next_part(process)
            corner[store] = moment.level_in(store) + k - 1
    return corner


def _closed_group(process, needs):
    """The least group with a process and all that its members need, ascending; [] if one of these does not wait."""
    group = [process]
    left = [process]
    while left:
        member = left.pop()
        for helper in needs[member]:
            if helper not in needs:
                return []
            if helper not in group:
                group.append(helper)
                left.append(helper)
    return sorted(group)

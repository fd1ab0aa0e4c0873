"""Edits: the nets that come out of changes."""

from leastrooms.cuts import first_parts
from leastrooms.errors import BadNet, BadRow
from leastrooms.nets import Net
from leastrooms.rows import Row, channels_of, inner_parts, is_round, single_parts


class Told:
    """What a net is made of: its programs, how many first messages there are, and the stores that channels share."""

    def __init__(self, programs, levels, stores):
        self.programs = programs
        self.levels = levels
        self.stores = stores


def net_behind(net, change):
    """The net behind a change; None if the change names what it can't name, or no net comes out."""
    try:
        told = _told_behind(net, change)
        return None if told is None else net_of(told)
    except (BadNet, BadRow):
        return None


def _told_behind(net, change):
    """What the net behind a change is made of; None if the change names what it can't name."""
    word = change[0]
    told = _told_of(net)
    if word == "row":
        return _with_row(net, told, change[1], change[2])
    if word == "first":
        return _with_first(net, told, change[1], change[2])
    if word == "join":
        return _joined(net, told, change[1], change[2])
    if word == "part":
        return _parted(told, change[1])
    if word == "relay":
        return _relayed(net, told, change[1:])
    return _killed(net, told, change[1:])


def _told_of(net):
    return Told(
        {process: net.row(process) for process in net.processes},
        {channel: net.first(channel) for channel in net.channels},
        {store: net.channels_in(store) for store in net.stores if store not in net.channels},
    )


def net_of(told):
    """The Net that is made of this; what is told of channels that no program names is left out."""
    named = [channel for row in told.programs.values() for channel in channels_of(row)]
    stores = {store: [channel for channel in told.stores[store] if channel in named] for store in told.stores}
    return Net(
        told.programs,
        {channel: k for channel, k in told.levels.items() if channel in named and k > 0},
        {store: stores[store] for store in stores if len(stores[store]) > 1},
    )


def _with_row(net, told, process, parts):
    if process not in net.processes:
        return None
    return Told({**told.programs, process: Row(parts)}, told.levels, told.stores)


def _with_first(net, told, channel, k):
    if channel not in net.channels:
        return None
    return Told(told.programs, {**told.levels, channel: k}, told.stores)


def _joined(net, told, store, channels):
    if store in net.stores or not all([channel in net.stores for channel in channels]):
        return None
    # Who shares a store already is no store of its own name: only channels are left to look for.
    if not all([channel in net.channels for channel in channels]):
        return None
    return Told(told.programs, told.levels, {**told.stores, store: list(channels)})


def _parted(told, store):
    if store not in told.stores:
        return None
    return Told(told.programs, told.levels, {other: told.stores[other] for other in told.stores if other != store})


def _relayed(net, told, names):
    channel, process, other = names
    if channel not in net.channels or net.taker(channel) is None:
        return None
    if process in net.processes or other in net.channels:
        return None
    taker = net.taker(channel)
    relay = Row((("forever", (("take", channel, 1), ("send", other, 1))),))
    programs = {**told.programs, taker: Row(_taking(net.row(taker).parts, channel, other)), process: relay}
    return Told(programs, told.levels, told.stores)


def _taking(parts, channel, other):
    """The parts with takes from another channel in the place of those from one."""
    return tuple([_taking_part(part, channel, other) for part in parts])


def _taking_part(part, channel, other):
    if is_round(part):
        return part[:-1] + (_taking(inner_parts(part), channel, other),)
    return ("take", other, part[2]) if part[0] == "take" and part[1] == channel else part


def _killed(net, told, names):
    process, n, steps = names
    if process not in net.processes:
        return None
    parts = net.row(process).parts
    # The loop that is never done keeps all channels and their least rooms.
    rest = ("loop", (0, 0), _most_at_once(parts, "send") + _most_at_once(parts, "take"))
    return _with_row(net, told, process, first_parts(parts, n, steps) + (rest,))


def _most_at_once(parts, word):
    """A part of this kind for each channel that has some among parts, ascending, with the greatest k."""
    moves = [part for part in single_parts(parts) if part[0] == word]
    channels = sorted(set([part[1] for part in moves]))
    return tuple([(word, channel, max([part[2] for part in moves if part[1] == channel])) for channel in channels])

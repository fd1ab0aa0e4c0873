"""Nets: processes, the channels between them, and the stores of these."""

from leastrooms.errors import BadNet, NoChannel, NoProcess, NoStore
from leastrooms.rows import Row, single_parts
from leastrooms.words import is_among, is_between, is_word

MOST_PROCESSES = 8
MOST_CHANNELS = 12
MOST_FIRST = 99


class Net:
    """Processes with their programs, first messages, and the stores that channels share."""

    def __init__(self, programs, first=None, stores=None):
        if not _are_programs(programs):
            raise BadNet(programs)
        self.processes = tuple(sorted(programs))
        self._rows = {process: programs[process] for process in self.processes}
        self._senders = dict(_users(self._rows, "send"))
        self._takers = dict(_users(self._rows, "take"))
        self.channels = tuple(sorted({**self._senders, **self._takers}))
        if first is not None and not _are_first(first, self.channels):
            raise BadNet(first)
        self._first = {} if first is None else dict(first)
        if stores is not None and not _are_stores(stores, self.channels, self._senders):
            raise BadNet(stores)
        self._channels_in = _all_stores({} if stores is None else stores, self.channels)
        self.stores = tuple(sorted(self._channels_in))
        self._store_of = {channel: store for store in self.stores for channel in self._channels_in[store]}
        self._least = _least_rooms(self._rows, self._first, self._channels_in)

    def row(self, process):
        """The program of a process."""
        check_process(self, process)
        return self._rows[process]

    def sender(self, channel):
        """The process that sends to a channel, None if there is none."""
        check_channel(self, channel)
        return self._senders.get(channel)

    def taker(self, channel):
        """The process that takes from a channel, None if there is none."""
        check_channel(self, channel)
        return self._takers.get(channel)

    def first(self, channel):
        """How many messages a channel has at the beginning."""
        check_channel(self, channel)
        return self._first.get(channel, 0)

    def store_of(self, channel):
        """The store in which the messages of a channel are."""
        check_channel(self, channel)
        return self._store_of[channel]

    def channels_in(self, store):
        """The channels that share a store, ascending."""
        check_store(self, store)
        return list(self._channels_in[store])

    def least_room(self, store):
        """The room without which the first messages, or some send or take, have none."""
        check_store(self, store)
        return self._least[store]

    def __eq__(self, other):
        if not isinstance(other, Net):
            return False
        if self._rows != other._rows or self._first != other._first:
            return False
        return self._channels_in == other._channels_in


def check_net(net):
    """Raise BadNet if a value is no Net."""
    if not isinstance(net, Net):
        raise BadNet(net)


def check_process(net, process):
    """Raise NoProcess if a value is no process of the net."""
    if not is_among(process, net.processes):
        raise NoProcess(process)


def check_channel(net, channel):
    """Raise NoChannel if a value is no channel of the net."""
    if not is_among(channel, net.channels):
        raise NoChannel(channel)


def check_store(net, store):
    """Raise NoStore if a value is no store of the net, or of the Rooms in its place."""
    if not is_among(store, net.stores):
        raise NoStore(store)


def _users(rows, word):
    """Tuples of a channel and a process that sends to it, or takes from it, each once."""
    return sorted({
        (part[1], process) for process in rows for part in single_parts(rows[process].parts) if part[0] == word
    })


def _are_programs(programs):
    """Whether a value is a dict of programs whose channels lead from one process to another one."""
    if not isinstance(programs, dict) or not 1 <= len(programs) <= MOST_PROCESSES:
        return False
    if not all([is_word(process) and isinstance(programs[process], Row) for process in programs]):
        return False
    senders = _users(programs, "send")
    takers = _users(programs, "take")
    if not _are_single(senders) or not _are_single(takers):
        return False
    if any([pair in takers for pair in senders]):
        return False
    return len({**dict(senders), **dict(takers)}) <= MOST_CHANNELS


def _are_single(users):
    """Whether no channel has two processes at the same end."""
    return len(dict(users)) == len(users)


def _are_first(first, channels):
    """Whether a value tells first messages of these channels."""
    if not isinstance(first, dict):
        return False
    return all([is_among(channel, channels) and is_between(first[channel], 1, MOST_FIRST) for channel in first])


def _are_stores(stores, channels, senders):
    """Whether a value tells stores that some of these channels share, each channel at most one."""
    if not isinstance(stores, dict):
        return False
    sharing = []
    for store in stores:
        if not is_word(store) or store in channels or not _can_share(stores[store], senders):
            return False
        sharing.extend(stores[store])
    return len(set(sharing)) == len(sharing)


def _can_share(sharing, senders):
    """Whether a value is a list or tuple of two or more channels with one and the same sender."""
    if not isinstance(sharing, (list, tuple)) or len(sharing) < 2:
        return False
    if not all([is_among(channel, senders) for channel in sharing]):
        return False
    return all([senders[channel] == senders[sharing[0]] for channel in sharing])


def _all_stores(stores, channels):
    """A dict of all stores and the tuples of their channels: the shared ones, and the other channels' own."""
    table = {store: tuple(sorted(stores[store])) for store in stores}
    shared = [channel for store in table for channel in table[store]]
    for channel in channels:
        if channel not in shared:
            table[channel] = (channel,)
    return table


def _least_rooms(rows, first, stores):
    """A dict of the least room of each store."""
    moves = [part for process in rows for part in single_parts(rows[process].parts) if part[0] != "work"]
    least = {}
    for store, channels in stores.items():
        at_once = [part[2] for part in moves if part[1] in channels]
        least[store] = max([sum([first.get(channel, 0) for channel in channels])] + at_once)
    return least

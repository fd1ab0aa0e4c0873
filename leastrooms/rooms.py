"""Rooms: how many messages each store of a net can hold."""

from leastrooms.errors import BadRooms, Small
from leastrooms.nets import check_net, check_store
from leastrooms.words import is_between, is_word

# An exponent is at most 64 in this program.
LARGEST_ROOM = 10 ** 50 * 10 ** 50 * 10 ** 50 * 10 ** 50
# In the place of None, where rooms are told by numbers: a room without limit is greater than all others.
NO_LIMIT = LARGEST_ROOM + 1


class Rooms:
    """A room for each store: a number, or None for a room without limit."""

    def __init__(self, values):
        if not _are_rooms(values):
            raise BadRooms(values)
        self.stores = tuple(sorted(values))
        self._rooms = {store: values[store] for store in self.stores}
        self.total = _sum_of([values[store] for store in values])

    def __getitem__(self, at):
        check_store(self, at)
        return self._rooms[at]

    def __iter__(self):
        raise TypeError("Rooms are not iterated over: take pairs()")

    def pairs(self):
        """A list of tuples of each store and its room, ascending by stores."""
        return [(store, self._rooms[store]) for store in self.stores]

    def raised(self, store, room):
        """The Rooms with another room of one store."""
        check_store(self, store)
        if not is_room(room):
            raise BadRooms(room)
        return Rooms({**self._rooms, store: room})

    def fits(self, other):
        """Whether these are nowhere greater than other Rooms of the same stores."""
        self._check_alike(other)
        return all([_greater(self[store], other[store]) == other[store] for store in self.stores])

    def __or__(self, other):
        self._check_alike(other)
        return Rooms({store: _greater(self[store], other[store]) for store in self.stores})

    def __and__(self, other):
        self._check_alike(other)
        return Rooms({store: _lesser(self[store], other[store]) for store in self.stores})

    def __eq__(self, other):
        return isinstance(other, Rooms) and self._rooms == other._rooms

    def _check_alike(self, other):
        if not isinstance(other, Rooms) or other.stores != self.stores:
            raise BadRooms(other)


def is_room(thing):
    """Whether a value is a room."""
    return thing is None or is_between(thing, 0, LARGEST_ROOM)


def least_possible(net):
    """The Rooms in which each store has its least room."""
    check_net(net)
    return Rooms({store: net.least_room(store) for store in net.stores})


def without_limit(net):
    """The Rooms in which no store has a limit."""
    check_net(net)
    return Rooms({store: None for store in net.stores})


def check_rooms(net, rooms):
    """Raise BadRooms if these are no Rooms of the net's stores, Small if one is less than its least room."""
    if not isinstance(rooms, Rooms) or rooms.stores != net.stores:
        raise BadRooms(rooms)
    for store, room in rooms.pairs():
        if room is not None and room < net.least_room(store):
            raise Small(store)


def _are_rooms(values):
    if not isinstance(values, dict):
        return False
    return all([is_word(store) and is_room(values[store]) for store in values])


def _sum_of(rooms):
    return None if None in rooms else sum(rooms)


def _greater(one, other):
    return None if one is None or other is None else max(one, other)


def _lesser(one, other):
    if one is None or other is None:
        return other if one is None else one
    return min(one, other)

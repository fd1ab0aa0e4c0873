"""Corners: the least rooms that are enough, and the greatest ones that are not."""

from leastrooms.errors import BadList, BadPrices, TooMany
from leastrooms.moments import begin
from leastrooms.nets import check_net
from leastrooms.prices import are_prices_of, cost_at
from leastrooms.rooms import Rooms
from leastrooms.searches import MOST_TOLD, Search
from leastrooms.vectors import greatest_short, least_beyond, least_numbers, numbers_of, rooms_from
from leastrooms.walks import walk_from
from leastrooms.words import check_number


def is_enough(net, n, rooms):
    """Whether no process waits for room for ever."""
    return not walk_from(begin(net, n, rooms)).waits_for_room()


def least_rooms(net, n):
    """All least Rooms that are enough, ascending."""
    return _all_rooms(net, Search(net, n).enough)


def corners(net, n):
    """All greatest Rooms that are not enough, ascending."""
    return _all_rooms(net, Search(net, n).corners)


def why_not(net, n, rooms):
    """The first corner that is nowhere less than these Rooms; None if they are enough."""
    if is_enough(net, n, rooms):
        return None
    return [corner for corner in corners(net, n) if rooms.fits(corner)][0]


def undercut(net, n, rooms):
    """The first of the least Rooms that is nowhere greater than these, None if there is none."""
    if not is_enough(net, n, rooms):
        return None
    return [least for least in least_rooms(net, n) if least.fits(rooms)][0]


def cheapest(net, n, prices):
    """Of the least Rooms without None those with the least sum of room times price, in order."""
    check_net(net)
    check_number(n)
    if not are_prices_of(prices, net.stores):
        raise BadPrices(prices)
    finite = [rooms for rooms in least_rooms(net, n) if rooms.total is not None]
    costs = [cost_at(rooms, prices) for rooms in finite]
    return [rooms for rooms, cost in zip(finite, costs) if cost == min(costs)]


def least_above(net, thing):
    """All least Rooms that are greater somewhere than each of the given ones; ascending."""
    given = _numbers_in(net, thing)
    return _not_too_many(net, least_beyond(given, least_numbers(net), MOST_TOLD + 1))


def greatest_below(net, thing):
    """All greatest Rooms that are less somewhere than each of the given ones; ascending."""
    given = _numbers_in(net, thing)
    return _not_too_many(net, greatest_short(given, least_numbers(net), MOST_TOLD + 1))


def _numbers_in(net, thing):
    """The numbers of each of a list of Rooms of the net's stores."""
    check_net(net)
    if not isinstance(thing, list):
        raise BadList(thing)
    if not all([isinstance(rooms, Rooms) and rooms.stores == net.stores for rooms in thing]):
        raise BadList(thing)
    return [numbers_of(rooms) for rooms in thing]


def _not_too_many(net, found):
    if len(found) > MOST_TOLD:
        raise TooMany()
    return _all_rooms(net, found)


def _all_rooms(net, found):
    return [rooms_from(net.stores, numbers) for numbers in found]

"""Growing: policies that pick where rooms grow, and what that costs."""

from leastrooms.corners import cheapest
from leastrooms.ends import corner_of
from leastrooms.errors import BadPolicy, BadPrices, BadRooms
from leastrooms.growths import Growths
from leastrooms.items import each_of, total_of
from leastrooms.moments import begin
from leastrooms.nets import check_net
from leastrooms.prices import are_prices, are_prices_of, cost_at
from leastrooms.rooms import Rooms, least_possible
from leastrooms.words import check_number


class Policy:
    """Picks the first store of a knot."""

    def __call__(self, moment, knot, movers=()):
        return _least_ranked(self, moment, knot, movers)

    def rank(self, moment, store, corner):
        """All stores are as good as each other."""
        return 0

    def slopes(self, store):
        """By how much the rank grows with the room of a store, and with the number that it needs."""
        return 0, 0


class Narrow(Policy):
    """Picks the store with the least room."""

    def __call__(self, moment, knot, movers=()):
        return _least_ranked(self, moment, knot, movers)

    def rank(self, moment, store, corner):
        """The room of the store."""
        return moment.rooms[store]

    def slopes(self, store):
        """By how much the rank grows with the room of a store, and with the number that it needs."""
        return 1, 0


class Wide(Policy):
    """Picks the store with the greatest room."""

    def __call__(self, moment, knot, movers=()):
        return _least_ranked(self, moment, knot, movers)

    def rank(self, moment, store, corner):
        """The room of the store, with its sign turned."""
        return -moment.rooms[store]

    def slopes(self, store):
        """By how much the rank grows with the room of a store, and with the number that it needs."""
        return -1, 0


class Cheap(Policy):
    """Picks the store whose growth costs least."""

    def __init__(self, prices):
        if not are_prices(prices):
            raise BadPrices(prices)
        self._prices = dict(prices)

    def __call__(self, moment, knot, movers=()):
        return _least_ranked(self, moment, knot, movers)

    def rank(self, moment, store, corner):
        """The growth to the corner and one more, times the price."""
        return (corner + 1 - moment.rooms[store]) * self._prices.get(store, 0)

    def slopes(self, store):
        """By how much the rank grows with the room of a store, and with the number that it needs."""
        price = self._prices.get(store, 0)
        return -price, price


class Growth:
    """What has grown: the rooms in the end, how often something grew, and where."""

    def __init__(self, growths):
        self.rooms = growths.moment.rooms
        self.picks = growths.told_picks()
        self.many = total_of(self.picks)
        self.is_forced = growths.is_forced

    def one_by_one(self):
        """Yield the stores that grew one by one."""
        yield from each_of(self.picks)


def grow(net, n, rooms, policy):
    """The Growth of rooms, where the policy picks, till they are enough."""
    start = begin(net, n, rooms)
    _check_policy(policy)
    return Growth(Growths(start, policy))


def cost_of(rooms, prices):
    """The sum of room times price."""
    if not isinstance(rooms, Rooms) or rooms.total is None:
        raise BadRooms(rooms)
    if not are_prices_of(prices, rooms.stores):
        raise BadPrices(prices)
    return cost_at(rooms, prices)


def regret(net, n, prices, policy):
    """How much more the rooms cost to which a policy leads than the cheapest ones."""
    _check_prices(net, n, prices)
    _check_policy(policy)
    return _regret(net, n, prices, policy, _least_cost(net, n, prices))


def regrets(net, n, prices):
    """A list of tuples of a word and the regret of its policy, ascending by regret."""
    _check_prices(net, n, prices)
    least = _least_cost(net, n, prices)
    policies = [Policy(), Narrow(), Wide(), Cheap(prices)]
    costs = [_regret(net, n, prices, policy, least) for policy in policies]
    words = ["first", "narrow", "wide", "cheap"]
    return [(words[place], cost) for cost, place in sorted([(cost, place) for place, cost in enumerate(costs)])]


def _least_ranked(policy, moment, knot, movers):
    """The store of a knot with the least rank, the first in order of these."""
    corner = corner_of(moment, knot, movers)
    stores = sorted(corner)
    ranks = [policy.rank(moment, store, corner[store]) for store in stores]
    return stores[ranks.index(min(ranks))]


def _check_policy(policy):
    if not isinstance(policy, Policy):
        raise BadPolicy(policy)


def _check_prices(net, n, prices):
    check_net(net)
    check_number(n)
    if not are_prices_of(prices, net.stores):
        raise BadPrices(prices)


def _least_cost(net, n, prices):
    return cost_of(cheapest(net, n, prices)[0], prices)


def _regret(net, n, prices, policy, least):
    return cost_of(grow(net, n, least_possible(net), policy).rooms, prices) - least

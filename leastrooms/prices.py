"""Prices: what a room of one costs, for each store."""

from leastrooms.words import is_between, is_word

HIGHEST_PRICE = 10 ** 6


def are_prices(thing):
    """Whether a value is a dict of words and prices."""
    if not isinstance(thing, dict):
        return False
    return all([is_word(store) and is_between(thing[store], 0, HIGHEST_PRICE) for store in thing])


def are_prices_of(thing, stores):
    """Whether a value is a dict of just these stores and prices."""
    return are_prices(thing) and sorted(thing) == list(stores)


def cost_at(rooms, prices):
    """The sum of room times price."""
    return sum([room * prices[store] for store, room in rooms.pairs()])

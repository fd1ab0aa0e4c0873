"""Vectors: a number for each store, and which ones are the least beyond others, or the greatest short of them."""

from leastrooms.rooms import NO_LIMIT, Rooms


def numbers_of(rooms):
    """The rooms as a tuple of numbers in the order of the stores."""
    return numbers_in([room for _, room in rooms.pairs()])


def numbers_in(vector):
    """A tuple of rooms as a tuple of numbers."""
    return tuple([NO_LIMIT if room is None else room for room in vector])


def vector_from(numbers):
    """A tuple of numbers as a tuple of rooms."""
    return tuple([_room(number) for number in numbers])


def rooms_from(stores, numbers):
    """The Rooms of these stores that a tuple of numbers tells."""
    return Rooms({store: _room(number) for store, number in zip(stores, numbers)})


def least_numbers(net):
    """The least rooms that are possible, as a tuple of numbers."""
    return tuple([net.least_room(store) for store in net.stores])


def is_nowhere_greater(one, other):
    """Whether numbers are nowhere greater than other ones."""
    return all([number <= further for number, further in zip(one, other)])


def are_possible(numbers, floor):
    """Whether numbers tell rooms from floor on."""
    return is_nowhere_greater(floor, numbers) and is_nowhere_greater(numbers, (NO_LIMIT,) * len(floor))


def greatest_of(found):
    """Those of some tuples of numbers that are greater somewhere than each other one, each once, ascending."""
    single = sorted(set(found))
    return [
        numbers for numbers in single
        if not any([other != numbers and is_nowhere_greater(numbers, other) for other in single])
    ]


def least_beyond(given, floor, most):
    """Up to so many of the least numbers, from floor on, that are greater somewhere than each given ones; ascending."""
    return _least_between(given, floor, (NO_LIMIT,) * len(floor), most)


def greatest_short(given, floor, most):
    """Up to so many of the greatest numbers, from floor on, that are less somewhere than each given ones; ascending."""
    # With all signs turned the greatest are the least.
    turned = [_turned(numbers) for numbers in given]
    found = _least_between(turned, (-NO_LIMIT,) * len(floor), _turned(floor), most)
    return sorted([_turned(numbers) for numbers in found])


def _least_between(given, floor, ceiling, most):
    found = []
    left = [numbers for numbers in given if is_nowhere_greater(floor, numbers)]
    _raise_on(found, left, floor, ceiling, {}, most)
    return sorted(found)


def _raise_on(found, left, now, caps, needed, most):
    """Add to found the least numbers to which now leads.

    left: the given ones that now is greater than nowhere; caps: the greatest number for each index;
    needed: for each index that was raised, those given ones beyond which it alone leads.
    """
    if not left:
        found.append(now)
        return
    # The one for which fewest can still be raised shows soonest where nothing is to be found.
    open_for = [_open_for(numbers, caps, needed) for numbers in left]
    many = [len(indexes) for indexes in open_for]
    first = left[many.index(min(many))]
    for at in open_for[many.index(min(many))]:
        levels = sorted(set([numbers[at] + 1 for numbers in left if first[at] <= numbers[at] < caps[at]]))
        # The greatest level leaves the least to do: so the first ones are found soon.
        for level in reversed(list(levels)):
            further = _needed_behind(needed, left, at, level)
            if all([further[key] for key in further]) and len(found) < most:
                behind = [numbers for numbers in left if numbers[at] >= level]
                _raise_on(found, behind, now[:at] + (level,) + now[at + 1:], caps, further, most)
        # What this index could have done for the first one, the next ones do alone: nothing is found twice.
        caps = caps[:at] + (min(caps[at], first[at]),) + caps[at + 1:]


def _open_for(numbers, caps, needed):
    """The indexes that can still be raised beyond numbers."""
    return [at for at, number in enumerate(numbers) if number < caps[at] and at not in needed]


def _needed_behind(needed, left, at, level):
    """Those given ones for which each raised index is needed, with one more of them raised."""
    table = {key: [numbers for numbers in needed[key] if numbers[at] >= level] for key in needed}
    table[at] = [numbers for numbers in left if numbers[at] + 1 == level]
    return table


def _turned(numbers):
    return tuple([-number for number in numbers])


def _room(number):
    return None if number == NO_LIMIT else number

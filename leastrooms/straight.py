"""Straight: which lines go through rooms that are known at some n."""

from leastrooms.lines import Line
from leastrooms.rooms import NO_LIMIT


def lines_through(known):
    """Tuples of Lines and None, one for each of the numbers at m = 0, that tell all numbers known at other m.

    known: a list of tuples of m and a list of tuples of numbers; m = 0 and m = 1 stand ahead. An empty
    list if there are no such lines; None if there may be several.
    """
    first = known[0][1]
    second = known[1][1]
    if len(first) != len(second):
        return []
    found = []
    for one in first:
        partners = [other for other in second if _goes_on(one, other, known[2:])]
        if not partners:
            return []
        found.append(partners)
    if not all([len(partners) == 1 for partners in found]):
        return None
    chosen = [partners[0] for partners in found]
    if sorted(chosen) != sorted(second):
        return []
    return [_line_vector(one, other) for one, other in zip(first, chosen)]


def numbers_at(vector, m):
    """The values at m of a tuple of Lines and None, as numbers."""
    return tuple([NO_LIMIT if line is None else line.at_zero + line.slope * m for line in vector])


def is_known_at(vectors, known):
    """Whether tuples of Lines and None tell all numbers of a tuple of m and a list of them, each once."""
    m, numbers = known
    return sorted([numbers_at(vector, m) for vector in vectors]) == sorted(numbers)


def _goes_on(one, other, known):
    """Whether the numbers straight on behind one and other are among those that are known."""
    if [number == NO_LIMIT for number in one] != [number == NO_LIMIT for number in other]:
        return False
    return all([_further(one, other, m) in numbers for m, numbers in known])


def _further(one, other, m):
    """The numbers at m, straight on behind those at 0 and at 1."""
    return tuple([number + (further - number) * m for number, further in zip(one, other)])


def _line_vector(one, other):
    return tuple([
        None if number == NO_LIMIT else Line(number, further - number) for number, further in zip(one, other)
    ])

"""Straight: which lines go through rooms that are known at some n."""

from leastrooms.errors import TooLong
from leastrooms.lines import Line
from leastrooms.rooms import NO_LIMIT
from leastrooms.spans import last_of


def lines_from(known, first, step):
    """Two lists of tuples of Lines and None that may go through the rooms from first on; None if there are none."""
    near = [known.at(first + step * m, step) for m in range(2)]
    lines = [lines_through([(m, rooms[kind]) for m, rooms in enumerate(near)]) for kind in (0, 1)]
    if None not in lines:
        return lines if all([_are_as_many(lines, rooms) for rooms in near]) else None
    # Most rooms keep their order.
    likely = [_lines_in_order(near[0][kind], near[1][kind]) for kind in (0, 1)]
    if None not in likely and known.are_told(first + 3 * step, told_at(likely, 3)):
        return likely
    return _lines_further(known, first, step)


def told_at(lines, m):
    """Two lists of the numbers at m of tuples of Lines and None."""
    return tuple([[numbers_at(vector, m) for vector in vectors] for vectors in lines])


def moved_back(lines, many):
    """Two lists of tuples of Lines and None that begin so many m earlier, each in the order at the first one."""
    return [_in_order([_begun_earlier(vector, many) for vector in vectors]) for vectors in lines]


def lines_through(known):
    """Tuples of Lines and None, one for each of the numbers at m = 0, that tell all numbers known at other m.

    known: a list of tuples of m and a list of tuples of numbers; m = 0 and m = 1 stand ahead. An empty
    list if there are no such lines; None if there may be several.
    """
    first = known[0][1]
    second = known[1][1]
    if len(first) != len(second):
        return []
    found = []
    for one in first:
        partners = [other for other in second if _goes_on(one, other, known[2:])]
        if not partners:
            return []
        found.append(partners)
    if not all([len(partners) == 1 for partners in found]):
        return None
    chosen = [partners[0] for partners in found]
    if sorted(chosen) != sorted(second):
        return []
    return [_line_vector(one, other) for one, other in zip(first, chosen)]


def numbers_at(vector, m):
    """The values at m of a tuple of Lines and None, as numbers."""
    return tuple([NO_LIMIT if line is None else line.at_zero + line.slope * m for line in vector])


def beside(near, one, other):
    """The numbers that are as far from near as other is from one."""
    return tuple([
        NO_LIMIT if NO_LIMIT in (number, before, behind) else number + behind - before
        for number, before, behind in zip(near, one, other)
    ])


def _lines_in_order(one, other):
    """Tuples of Lines and None that lead from some numbers to others in the same order; None if there are none."""
    if len(one) != len(other) or not all([_goes_on(number, further, []) for number, further in zip(one, other)]):
        return None
    return [_line_vector(numbers, further) for numbers, further in zip(one, other)]


def _lines_further(known, first, step):
    """The same as lines_from, where two n leave several ways."""
    near = [known.at(first + step * m, step) for m in range(4)]
    lines = []
    for kind in (0, 1):
        points = [(m, rooms[kind]) for m, rooms in enumerate(near)]
        found = lines_through(points)
        lines.append(_lines_to_the_last(known, points, first, step, kind) if found is None else found)
    return lines if all([_are_as_many(lines, rooms) for rooms in near]) else None


def _lines_to_the_last(known, points, first, step, kind):
    """The lines where those near to first may be several; an empty list if the last ones tell no more."""
    last = last_of(first, step)
    try:
        further = known.at(first + step * last)[kind]
    except TooLong:
        return []
    return lines_through(points + [(last, further)]) or []


def _are_as_many(lines, rooms):
    return [len(vectors) for vectors in lines] == [len(numbers) for numbers in rooms]


def _begun_earlier(vector, many):
    return tuple([None if line is None else Line(line.at_zero - many * line.slope, line.slope) for line in vector])


def _in_order(vectors):
    """Tuples of Lines and None in the order of their numbers at 0."""
    places = sorted([(numbers_at(vector, 0), place) for place, vector in enumerate(vectors)])
    return [vectors[place] for _, place in places]


def _goes_on(one, other, known):
    """Whether the numbers straight on behind one and other are among those that are known."""
    if [number == NO_LIMIT for number in one] != [number == NO_LIMIT for number in other]:
        return False
    return all([_further(one, other, m) in numbers for m, numbers in known])


def _further(one, other, m):
    """The numbers at m, straight on behind those at 0 and at 1."""
    return tuple([number + (further - number) * m for number, further in zip(one, other)])


def _line_vector(one, other):
    return tuple([
        None if number == NO_LIMIT else Line(number, further - number) for number, further in zip(one, other)
    ])

"""Papers: what shows others that rooms are enough, or that they are not, and who checks it."""

from leastrooms.courses import are_items, follow_traced, movers_in
from leastrooms.ends import helpers_of, is_knot, knots
from leastrooms.errors import BadVector, NotRight, NotSo, TooMany
from leastrooms.moments import Grounds, begin, waits_at, with_limits
from leastrooms.nets import check_net
from leastrooms.rooms import NO_LIMIT, Rooms, check_rooms, is_room
from leastrooms.searches import MOST_TOLD, Search
from leastrooms.vectors import is_nowhere_greater, least_beyond, least_numbers, numbers_in, vector_from
from leastrooms.walks import walk_from
from leastrooms.words import check_number, is_tuple_of


class Reached:
    """Where the items of a right paper lead: the moment behind them, the movers of the item without end, the trace."""

    def __init__(self, moment, movers, trace):
        self.moment = moment
        self.moving = movers
        self.trace = trace

    def told_waits(self):
        """What each process that is no mover waits for."""
        waits = waits_at(self.moment)
        return {process: waits[process] for process in waits if process not in self.moving}


def vector_of(net, rooms):
    """The vector of Rooms."""
    check_net(net)
    check_rooms(net, rooms)
    return tuple([room for _, room in rooms.pairs()])


def rooms_of(net, vector):
    """The Rooms of a vector."""
    check_net(net)
    if not is_vector(net, vector):
        raise BadVector(vector)
    return _rooms_at(net, vector)


def enough_paper(net, n, rooms):
    """A right enough paper with the vector of these Rooms."""
    walk = walk_from(begin(net, n, rooms))
    if walk.waits_for_room():
        raise NotSo(rooms)
    return ("enough", vector_of(net, rooms), tuple(walk.told_items()))


def stuck_paper(net, n, rooms):
    """A right stuck paper with the vector of these Rooms."""
    walk = walk_from(begin(net, n, rooms))
    if not walk.waits_for_room():
        raise NotSo(rooms)
    knot = knots(walk.moment, walk.moving)[0]
    return ("stuck", vector_of(net, rooms), tuple(walk.told_items()), tuple(knot))


def is_enough_paper(net, n, thing):
    """Whether a value is a right enough paper."""
    check_net(net)
    check_number(n)
    return reached_enough(Grounds(net).at(n), thing) is not None


def is_stuck_paper(net, n, thing):
    """Whether a value is a right stuck paper."""
    check_net(net)
    check_number(n)
    return reached_stuck(Grounds(net).at(n), thing) is not None


def waits_in(net, n, paper):
    """Yield for each process of the knot of a right stuck paper what it waits for, and who could end that."""
    check_net(net)
    check_number(n)
    reached = reached_stuck(Grounds(net).at(n), paper)
    if reached is None:
        raise NotSo(paper)
    for process in paper[3]:
        word, name = reached.moment.wait(process)
        helpers = helpers_of(reached.moment, (word, name))
        yield process, word, name, tuple(sorted(set(helpers)))


def certificate(net, n):
    """A certificate with the vectors of all least rooms and of all corners."""
    search = Search(net, n)
    enough = [enough_paper(net, n, _rooms_at(net, vector_from(numbers))) for numbers in search.enough]
    stuck = [stuck_paper(net, n, _rooms_at(net, vector_from(numbers))) for numbers in search.corners]
    return ("certificate", tuple(enough), tuple(stuck))


def judge(net, n, thing):
    """The first verdict on a certificate that applies."""
    check_net(net)
    check_number(n)
    if not is_tuple_of(thing, "certificate", 3) or not all([is_told(papers) for papers in thing[1:]]):
        return ("form",)
    start = Grounds(net).at(n)
    for index, paper in enumerate(thing[1]):
        if reached_enough(start, paper) is None:
            return ("enough", index)
    for index, paper in enumerate(thing[2]):
        if reached_stuck(start, paper) is None:
            return ("stuck", index)
    enough = [numbers_in(paper[1]) for paper in thing[1]]
    stuck = [numbers_in(paper[1]) for paper in thing[2]]
    return _verdict_on(least_numbers(net), enough, stuck)


def reached_enough(start, thing):
    """Where the items of a right enough paper lead from a moment on; None if a value is none."""
    reached = _reached_by(start, thing) if is_tuple_of(thing, "enough", 3) else None
    if reached is None or not all([wait is not None and wait[0] != "full" for wait in reached.told_waits().values()]):
        return None
    return reached


def reached_stuck(start, thing):
    """Where the items of a right stuck paper lead from a moment on; None if a value is none."""
    if not is_tuple_of(thing, "stuck", 4) or not isinstance(thing[3], tuple):
        return None
    reached = _reached_by(start, thing)
    if reached is None or not is_knot(reached.moment, list(thing[3]), reached.moving):
        return None
    return reached


def is_vector(net, thing):
    """Whether a value is a vector of the net."""
    if not isinstance(thing, tuple) or len(thing) != len(net.stores):
        return False
    if not all([is_room(room) for room in thing]):
        return False
    return is_nowhere_greater(least_numbers(net), numbers_in(thing))


def is_told(thing):
    """Whether a value is a tuple of so few values that they can be told."""
    return isinstance(thing, tuple) and len(thing) <= MOST_TOLD


def _rooms_at(net, vector):
    return Rooms(dict(zip(net.stores, vector)))


def _reached_by(start, paper):
    """Where the items of a paper lead with the rooms of its vector; None if they are not right."""
    _, vector, items = paper[:3]
    if not is_vector(start.net, vector) or not are_items(items):
        return None
    trace = []
    try:
        moment = follow_traced(with_limits(start, dict(zip(start.net.stores, vector))), items, trace)
    except NotRight:
        return None
    return Reached(moment, movers_in(items), trace)


def _verdict_on(floor, enough, stuck):
    """The verdict on right papers with these numbers."""
    least = least_beyond(stuck, floor, MOST_TOLD + 1)
    if len(least) > MOST_TOLD:
        raise TooMany()
    for numbers in least:
        if not _is_shown(numbers, enough):
            return ("cover", vector_from(numbers))
    for index, numbers in enumerate(enough):
        if numbers not in least or numbers in enough[:index]:
            return ("least", index)
    for index, numbers in enumerate(stuck):
        if numbers in stuck[:index] or not _is_greatest(numbers, enough):
            return ("greatest", index)
    return ("accepted",)


def _is_shown(numbers, enough):
    """Whether numbers are nowhere less than some that are enough."""
    return any([is_nowhere_greater(one, numbers) for one in enough])


def _is_greatest(numbers, enough):
    """Whether numbers are nowhere less than some enough ones as soon as one of them is the next greater one."""
    nexts = [numbers[:at] + (number + 1,) + numbers[at + 1:] for at, number in enumerate(numbers) if number != NO_LIMIT]
    return all([_is_shown(further, enough) for further in nexts])

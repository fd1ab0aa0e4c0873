"""Questions to desks, and at which events the answer is yes."""

from leastrooms.changes import fates
from leastrooms.desks import check_events
from leastrooms.errors import BadQuestion, BadRooms
from leastrooms.rooms import NO_LIMIT, is_room
from leastrooms.words import is_among


class Question:
    """A question to a desk; the answer to this one is always yes."""

    def __call__(self, desk):
        return True

    def __and__(self, other):
        _check_question(other)
        return Both(self, other)

    def __or__(self, other):
        _check_question(other)
        return Either(self, other)

    def __invert__(self):
        return Opposite(self)


class Enough(Question):
    """Whether the rooms are enough."""

    def __call__(self, desk):
        return desk.works()

    def __and__(self, other):
        _check_question(other)
        return Both(self, other)

    def __or__(self, other):
        _check_question(other)
        return Either(self, other)

    def __invert__(self):
        return Opposite(self)


class Holds(Question):
    """Whether the room of a store is at least k; no if there is no such store."""

    def __init__(self, store, k):
        if not is_room(k):
            raise BadRooms(k)
        self._store = store
        self._k = k

    def __call__(self, desk):
        if not is_among(self._store, desk.net.stores):
            return False
        return _as_number(desk.rooms[self._store]) >= _as_number(self._k)

    def __and__(self, other):
        _check_question(other)
        return Both(self, other)

    def __or__(self, other):
        _check_question(other)
        return Either(self, other)

    def __invert__(self):
        return Opposite(self)


class Ends(Question):
    """Whether this is the fate of a process; no if there is no such process."""

    def __init__(self, process, fate):
        self._process = process
        self._fate = fate

    def __call__(self, desk):
        if not is_among(self._process, desk.net.processes):
            return False
        return is_among(self._fate, [fates(desk.net, desk.n, desk.rooms)[self._process]])

    def __and__(self, other):
        _check_question(other)
        return Both(self, other)

    def __or__(self, other):
        _check_question(other)
        return Either(self, other)

    def __invert__(self):
        return Opposite(self)


class Both(Question):
    """Whether the answers to two questions are yes."""

    def __init__(self, one, other):
        self._one = one
        self._other = other

    def __call__(self, desk):
        return self._one(desk) and self._other(desk)


class Either(Question):
    """Whether the answer to one of two questions is yes."""

    def __init__(self, one, other):
        self._one = one
        self._other = other

    def __call__(self, desk):
        return self._one(desk) or self._other(desk)


class Opposite(Question):
    """Whether the answer to a question is no."""

    def __init__(self, one):
        self._one = one

    def __call__(self, desk):
        return not self._one(desk)


def when(question, desk, events):
    """Behind how many of some events the answer is yes, a list of numbers, 0 ahead of the first; the desk stays."""
    _check_question(question)
    check_events(events)
    draft = desk.copy()
    found = [0] if question(draft) else []
    for number, event in enumerate(events, 1):
        draft.do(event)
        if question(draft):
            found.append(number)
    return found


def _check_question(thing):
    if not isinstance(thing, Question):
        raise BadQuestion(thing)


def _as_number(room):
    return NO_LIMIT if room is None else room

"""Desks: where nets, n and rooms are tried, event by event, and taken back."""

from leastrooms.changes import Draft
from leastrooms.corners import is_enough, least_rooms, why_not
from leastrooms.errors import BadEvent, BadEvents, BadPlan, BadPrices, NotSo
from leastrooms.happenings import event_of, is_event, is_told_event, line_of
from leastrooms.moments import begin
from leastrooms.prices import are_prices_of
from leastrooms.rooms import Rooms, check_rooms
from leastrooms.vectors import numbers_of


class Stand:
    """What a desk has at some time: a net, n and rooms."""

    def __init__(self, net, n, rooms):
        self.net = net
        self.n = n
        self.rooms = rooms


class Desk:
    """A net, n and rooms that events change."""

    def __init__(self, net, n, rooms):
        begin(net, n, rooms)
        self.net = net
        self.n = n
        self.rooms = rooms
        # Each event that was not taken back, and the Stand ahead of it.
        self._past = ()

    @property
    def events(self):
        """What was done and not taken back, in order."""
        return [event for event, _ in self._past]

    def works(self):
        """Whether the rooms are enough."""
        return is_enough(self.net, self.n, self.rooms)

    def least(self):
        """All least Rooms that are enough, ascending."""
        return least_rooms(self.net, self.n)

    def lacking(self):
        """The first corner that is nowhere less than the rooms; None if they are enough."""
        return why_not(self.net, self.n, self.rooms)

    def do(self, event):
        """Do one event."""
        if not is_event(event):
            raise BadEvent(event)
        stand = Stand(self.net, self.n, self.rooms)
        if event[0] != "undo":
            self._stand_at(_stand_behind(stand, event), self._past + ((event, stand),))
        elif self._past:
            self._stand_at(self._past[-1][1], self._past[:-1])
        else:
            raise BadEvent(event)

    def do_all(self, events):
        """Do all of some events, or none if one of them can't be done."""
        check_events(events)
        draft = self.copy()
        for event in events:
            draft.do(event)
        self._stand_at(draft, draft._past)

    def copy(self):
        """A Desk that is as this one is, and goes on by itself."""
        other = Desk(self.net, self.n, self.rooms)
        other._past = self._past
        return other

    def _stand_at(self, stand, past):
        self.net = stand.net
        self.n = stand.n
        self.rooms = stand.rooms
        self._past = past


def repair(desk, prices):
    """The events that make rooms greater, so that they are enough, with the least sum of growth times price."""
    if not are_prices_of(prices, desk.net.stores):
        raise BadPrices(prices)
    if desk.works():
        return []
    # Whatever is enough is nowhere less than some least rooms.
    raised = [desk.rooms | least for least in desk.least()]
    numbered = [rooms for rooms in raised if _is_numbered(desk.rooms, rooms)]
    if not numbered:
        raise NotSo(desk.rooms)
    ranked = [(_cost_between(desk.rooms, rooms, prices), numbers_of(rooms), at) for at, rooms in enumerate(numbered)]
    best = numbered[sorted(ranked)[0][2]]
    return [("room", store, room) for store, room in best.pairs() if room != desk.rooms[store]]


def write_plan(events):
    """The text that tells events."""
    if not isinstance(events, (list, tuple)) or not all([is_told_event(event) for event in events]):
        raise BadEvents(events)
    return "".join([f"{line_of(event)}\n" for event in events])


def read_plan(text):
    """The events of a text that write_plan writes."""
    if not isinstance(text, str):
        raise BadPlan(0)
    lines = text.split("\n")
    events = [event_of(line) for line in lines[:-1]]
    # What stands behind the last line feed is a line without one.
    if None in events or lines[-1] != "":
        raise BadPlan((events + [None]).index(None))
    return events


def check_events(thing):
    """Raise BadEvents if a value is no list or tuple."""
    if not isinstance(thing, (list, tuple)):
        raise BadEvents(thing)


def _stand_behind(stand, event):
    """The Stand behind an event that is no undo."""
    if event[0] == "room":
        rooms = stand.rooms.raised(event[1], event[2])
        check_rooms(stand.net, rooms)
        return Stand(stand.net, stand.n, rooms)
    if event[0] == "n":
        return Stand(stand.net, event[1], stand.rooms)
    net = (Draft(stand.net) >> event[1]).net
    return Stand(net, stand.n, _kept_rooms(net, stand.rooms))


def _kept_rooms(net, rooms):
    """The Rooms of a net, with those of stores that were there before, as far as they are possible."""
    kept = {store: room for store, room in rooms.pairs() if store in net.stores}
    least = {store: net.least_room(store) for store in net.stores}
    return Rooms(least) | Rooms({**least, **kept})


def _is_numbered(before, behind):
    """Whether no room becomes one without limit."""
    return all([room is None or behind[store] is not None for store, room in before.pairs()])


def _cost_between(before, behind, prices):
    """The sum of growth times price."""
    return sum([(behind[store] - room) * prices[store] for store, room in before.pairs() if room is not None])

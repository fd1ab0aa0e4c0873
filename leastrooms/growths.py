"""Growths: rooms that grow at one store of a knot, again and again, till they are enough."""

from leastrooms.ends import corner_of, knots
from leastrooms.errors import TooLong
from leastrooms.items import DEEPEST
from leastrooms.moments import opened, with_rooms
from leastrooms.rooms import LARGEST_ROOM, Rooms
from leastrooms.tracks import Track, change_since, merged, most_goes, stretched
from leastrooms.walks import Move, walk_from

MOST_GROWTHS = 300


class GrowthMark:
    """A moment at which all wait, with its rooms, and how many moves stand ahead of it."""

    def __init__(self, spots, levels, rooms, ahead):
        self.spots = spots
        self.levels = levels
        self.rooms = rooms
        self.ahead = ahead


class Growths:
    """The growths that a policy picks, from a moment at the beginning on."""

    def __init__(self, start, policy):
        self.policy = policy
        self.is_forced = True
        self.moves = []
        self.many = 0
        self.moment = start
        if _has_forever(start):
            self._run_again(start)
        else:
            self._go_on()

    def told_picks(self):
        """The stores that grew, in short."""
        return tuple([move.item for move in self.moves])

    def _run_again(self, start):
        """After each growth run from the beginning."""
        walk = walk_from(start, True)
        while walk.waits_for_room():
            store, corner = self._picked(walk.moment, walk.moving)
            self._add(Move(store, {}, 0))
            self.moment = with_rooms(start, _raised(self.moment.rooms, store, corner))
            walk = walk_from(self.moment, True)

    def _go_on(self):
        """After each growth go on from where all waited, and look whether it is as it was behind an earlier one."""
        marks = []
        while self._goes_on_to_a_knot():
            mark, change, goes = self._found_since(marks)
            if mark is not None:
                self._repeat(mark, change, goes)
                marks = [one for one in marks if one.ahead <= mark.ahead]
            else:
                _, spots, levels = opened(self.moment)
                marks.append(GrowthMark(spots, levels, self.moment.rooms, len(self.moves)))
                store, corner = self._picked(self.moment, [])
                self._add(Move(store, _growing_slacks(self.policy, self.moment, corner, store), 0))
                self.moment = with_rooms(self.moment, _raised(self.moment.rooms, store, corner))

    def _goes_on_to_a_knot(self):
        """Go on till nothing is possible, and tell whether someone waits for room then."""
        walk = walk_from(self.moment, True)
        self.moment = walk.moment
        if self.moves:
            last = self.moves[-1]
            last.slacks = merged([last.slacks] + [move.slacks for move in walk.moves])
        return walk.waits_for_room()

    def _picked(self, moment, movers):
        """The store that grows, and the corner of its knot."""
        knot = knots(moment, movers)[0]
        corner = corner_of(moment, knot, movers)
        self.is_forced = self.is_forced and len(corner) == 1
        return self.policy(moment, knot, movers), corner

    def _found_since(self, marks):
        """The latest mark since which all can be done at least twice, the change, and how often; None without one."""
        track = Track(self.moment)
        slacks = {}
        at = len(self.moves)
        for mark in reversed(list(marks)):
            change = change_since(track, mark.spots, mark.levels, track.spots)
            growth = _growth_between(mark.rooms, self.moment.rooms)
            if change is not None and growth is not None and self._depth_since(mark) <= DEEPEST:
                change.growth = growth
                slacks = merged([slacks] + [move.slacks for move in self.moves[mark.ahead:at]])
                at = mark.ahead
                goes = most_goes(track, mark.spots, change, slacks)
                if goes is not None and goes > 1:
                    return mark, change, goes
        return None, None, 0

    def _repeat(self, mark, change, goes):
        """Put one item in the place of the moves since a mark, and do all that it does."""
        inner = self.moves[mark.ahead:]
        slacks = merged([move.slacks for move in inner])
        depth = self._depth_since(mark)
        self.moves = self.moves[:mark.ahead]
        item = ("times", goes, tuple([move.item for move in inner]))
        self._add(Move(item, stretched(slacks, change, goes), depth))
        track = Track(self.moment)
        track.shift(change, goes - 1)
        rooms = {store: _grown(room, change.growth, store, goes - 1) for store, room in self.moment.rooms.pairs()}
        self.moment = with_rooms(track.now(), Rooms(rooms))

    def _depth_since(self, mark):
        return 1 + max([move.depth for move in self.moves[mark.ahead:]])

    def _add(self, move):
        self.many = self.many + 1
        if self.many > MOST_GROWTHS:
            raise TooLong()
        self.moves.append(move)


def _has_forever(moment):
    """Whether some process does something for ever."""
    scene, _, _ = opened(moment)
    return any([stop.totals[:1] == (None,) for stops in scene.stops.values() for stop in stops])


def _raised(rooms, store, corner):
    """The rooms with one more than the corner at a store."""
    return rooms.raised(store, None if corner[store] >= LARGEST_ROOM else corner[store] + 1)


def _growing_slacks(policy, moment, corner, store):
    """What keeps all waiting for just the same, and the same store growing by the same."""
    slacks = {("even", store): 0, ("top", store): LARGEST_ROOM - corner[store] - 1}
    for process in moment.net.processes:
        slacks = merged([slacks, _waiting_slacks(moment, process)])
    for other in corner:
        slacks = merged([slacks, _rank_slacks(policy, moment, corner, store, other)])
    return slacks


def _waiting_slacks(moment, process):
    """What keeps a process waiting for just the same."""
    word, name = moment.wait(process)
    if word == "ended":
        return {}
    _, _, k = moment.next_part(process)
    if word == "empty":
        return {("dry", name): k - 1 - moment.level(name)}
    slacks = {("over", name): moment.level_in(name) + k - 1 - moment.rooms[name]}
    # Who could help is told by the channels that have messages.
    for channel in moment.net.channels_in(name):
        level = moment.level(channel)
        slacks[("low" if level > 0 else "dry", channel)] = max(0, level - 1)
    return slacks


def _rank_slacks(policy, moment, corner, store, other):
    """What keeps a store picked, and not another one."""
    if other == store:
        return {}
    ahead = policy.rank(moment, other, corner[other]) - policy.rank(moment, store, corner[store])
    by_room, by_fill = policy.slopes(other)
    less_by_room, less_by_fill = policy.slopes(store)
    key = ("rank", ((other, by_room, by_fill), (store, -less_by_room, -less_by_fill)))
    return {key: ahead if store < other else ahead - 1}


def _growth_between(one, other):
    """By how much each room has grown; None if one has no limit any more."""
    before = dict(one.pairs())
    after = dict(other.pairs())
    if not all([(before[store] is None) == (after[store] is None) for store in before]):
        return None
    return {store: after[store] - before[store] for store in before if before[store] is not None}


def _grown(room, growth, store, goes):
    return None if room is None else room + growth[store] * goes

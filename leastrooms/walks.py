"""Walks: from a moment to the end by turns and cycles, with repetitions found on the way."""

from leastrooms.errors import TooLong
from leastrooms.items import DEEPEST
from leastrooms.moments import Moment, waits_at
from leastrooms.rooms import LARGEST_ROOM
from leastrooms.marks import Mark, Marks
from leastrooms.stops import goes_at
from leastrooms.tracks import (
    Track, change_by, gains_since, goes_in_loops, goes_in_slacks, is_right_without_end, lesser, merged, stretched,
)

MOST_MOVES = 2000
MOST_SLOW_MOVES = 400
LOOKED_AT = 60
LOOKED_AT_EAGERLY = 300


class Move:
    """A step, or an item made of several moves: the item, its slacks, and how many `times` are within each other."""

    def __init__(self, item, slacks, depth):
        self.item = item
        self.slacks = slacks
        self.depth = depth


class Found:
    """A mark since which all may be repeated: the change, how often it stays in its loops, and the slacks of one go."""

    def __init__(self, mark, change, goes, slacks):
        self.mark = mark
        self.change = change
        self.goes = goes
        self.slacks = slacks


class Walk:
    """The moves from a moment to the end, or to an item that is right without end.

    An eager one comes to an end more often: it looks further back, and looks again behind each item.
    In an even one each turn is a single step, so that no process runs far ahead of the others.
    Where a store is told as slow, something is sent into it only if nothing else is possible.
    """

    def __init__(self, moment, is_eager, is_even=False, slow=None):
        self.is_eager = is_eager
        self.is_even = is_even
        self.looked_at = LOOKED_AT_EAGERLY if is_eager else LOOKED_AT
        self.is_slow = slow is not None
        self.slow_key = ("rest", slow)
        # Where others go on for ever, the sender into the slow store gets its turn behind each cycle.
        self.is_fair = False
        self.most = MOST_SLOW_MOVES if self.is_slow else MOST_MOVES
        self.track = Track(moment)
        self.moves = []
        self.many = 0
        self.moving = []
        # The moment behind all moves, or ahead of the item without end.
        self.moment = None
        self._go()

    def told_items(self):
        """The items of a course that goes this way."""
        return [move.item for move in self.moves]

    def most_held(self):
        """A dict from stores to the most that was at once in them behind sends; None if that grows for ever."""
        most = {}
        for move in self.moves:
            for (word, name), left in move.slacks.items():
                if word == "rest":
                    most[name] = max(most.get(name, 0), self.track.limits[name] - left)
                if word == "fill" and most.get(name, 0) is not None:
                    most[name] = None if left is None else max(most.get(name, 0), -left)
        return most

    def waits_for_room(self):
        """Whether some process waits for room for ever."""
        waits = waits_at(self.moment)
        return any([
            wait is not None and wait[0] == "full" for process, wait in waits.items() if process not in self.moving
        ])

    def _go(self):
        processes = self.track.scene.net.processes
        marks = Marks(self.looked_at)
        marks.put(self._mark(self._key_of(processes)))
        while self.moment is None:
            before = self.many
            for process in processes:
                self._turn(process)
            if self.is_slow and (self.is_fair or self.many == before):
                self._push()
            if self.many == before:
                self.moment = self.track.now()
                return
            key = self._key_of(processes)
            if marks.has(key):
                self._look_back(marks, key, processes)
            marks.put(self._mark(key))

    def _turn(self, process):
        track = self.track
        marks = None
        while True:
            index, done = track.spots[process]
            stop = track.stops[process][index]
            possible = goes_at(stop, track.levels, track.limits)
            if possible == 0 or stop.rest_key == self.slow_key:
                return
            goes = 1
            if stop.alone >= 0 and not self.is_even and (marks is None or not marks.has(index)):
                goes = lesser(possible, stop.totals[stop.alone] - 1 - done[stop.alone])
            if stop.recurs:
                marks = Marks(self.looked_at) if marks is None else marks
                marks.put(Mark(index, {process: (index, done)}, dict(track.levels), len(self.moves)))
            if goes > 1:
                # What first is a step, and then an item in its place.
                self._count()
                self._add(Move(("times", goes, (process,)), track.leap(process, stop, done, goes), 1))
                continue
            self._add(Move(process, track.step(process), 0))
            further, behind = track.spots[process]
            if self.is_even or (stop.totals[:1] == (None,) and behind[:1] != done[:1]):
                return
            if marks is not None and marks.has(further):
                self._fold(marks, self._found_since(marks, further, [process]), [process])

    def _push(self):
        """Send once into the slow store, if that is possible; others that wait now are to do so in each repetition."""
        track = self.track
        processes = track.scene.net.processes
        for process in processes:
            stop = track.stop_of(process)
            if stop.rest_key == self.slow_key and goes_at(stop, track.levels, track.limits) != 0:
                waiting = [track.slacks_of_waiting(other) for other in processes]
                self._add(Move(process, merged(waiting + [track.step(process)]), 0))

    def _look_back(self, marks, key, processes):
        """Make an item of whole cycles, if there is one."""
        found = self._found_since(marks, key, processes)
        if self._end_without_end(found):
            return
        if self.is_slow and not self.is_fair and self._goes_on(found):
            self.is_fair = True
            return
        before = self.many
        found = self._fold(marks, found, processes)
        # Behind an item that was made, all may stand as it once stood, though not ahead of it.
        if self.is_eager and self.many > before:
            self._end_without_end(found)

    def _goes_on(self, found):
        """Whether what is found has no bound."""
        return any([one.goes is None and goes_in_slacks(one.change, one.slacks) is None for one in found])

    def _fold(self, marks, found, processes):
        """Make the item with the greatest K, if there is one, and look no more at the marks within.

        An eager walk looks again behind each item; what it finds behind the last one is returned.
        """
        before = self.many
        self._fold_once(marks, found, 2)
        while self.is_eager and self.many > before:
            before = self.many
            found = self._found_since(marks, self._key_of(processes), processes)
            self._fold_once(marks, found, 1)
        return found

    def _fold_once(self, marks, found, unbound):
        """The same, but only once; unbound is K where it has no bound."""
        best = None
        most = 1
        for one in found:
            goes = lesser(one.goes, goes_in_slacks(one.change, one.slacks))
            goes = unbound if goes is None else min(goes, LARGEST_ROOM)
            if goes > most and self._depth_since(one.mark) <= DEEPEST:
                best = one
                most = goes
        if best is not None:
            self._make(best, most, stretched(best.slacks, best.change, most))
            self.track.shift(best.change, most - 1)
            marks.drop_behind(best.mark.ahead)

    def _end_without_end(self, found):
        """Make the item without end, if there is one, and tell whether there is."""
        for one in found:
            is_right = one.goes is None and is_right_without_end(self.track, one.change)
            if is_right and self._depth_since(one.mark) <= DEEPEST:
                self._make(one, None, _without_bound(one.slacks, one.change))
                self.moving = sorted(one.change.gains)
                self.moment = Moment(self.track.scene, one.mark.spots, one.mark.levels)
                return True
        return False

    def _found_since(self, marks, key, processes):
        """The latest marks since which all of these processes may go on alike more than once, the latest first."""
        found = []
        slacks = {}
        at = len(self.moves)
        for mark in marks.alike(key):
            gains = gains_since(self.track, mark.spots, processes)
            goes = None if gains is None else goes_in_loops(self.track, mark.spots, gains)
            if gains is not None and (goes is None or goes > 1):
                slacks = merged([slacks] + [move.slacks for move in self.moves[mark.ahead:at]])
                at = mark.ahead
                found.append(Found(mark, change_by(self.track, gains, mark.levels), goes, slacks))
        return found

    def _make(self, found, goes, slacks):
        """Put one item in the place of the moves since a mark."""
        ahead = found.mark.ahead
        depth = self._depth_since(found.mark)
        item = ("times", goes, tuple([move.item for move in self.moves[ahead:]]))
        self.moves = self.moves[:ahead]
        self._add(Move(item, slacks, depth))

    def _depth_since(self, mark):
        return 1 + max([move.depth for move in self.moves[mark.ahead:]])

    def _add(self, move):
        self._count()
        self.moves.append(move)

    def _count(self):
        self.many = self.many + 1
        if self.many > self.most:
            raise TooLong()

    def _key_of(self, processes):
        """What tells at which stops these processes are; of a single one, its index alone."""
        spots = self.track.spots
        if len(processes) == 1:
            return spots[processes[0]][0]
        return tuple([spots[process][0] for process in processes])

    def _mark(self, key):
        spots, levels = self.track.marked()
        return Mark(key, spots, levels, len(self.moves))


def walk_from(moment, is_eager=False):
    """The Walk from a moment on: of this kind if it comes to an end, else of another one; else TooLong."""
    try:
        return Walk(moment, is_eager)
    except TooLong:
        return _other_walk(moment, not is_eager)


def _other_walk(moment, is_eager):
    try:
        return Walk(moment, is_eager)
    except TooLong:
        return Walk(moment, True, True)


def _without_bound(slacks, change):
    """The slacks of an item without end; None for a store that holds more and more."""
    return {key: None if change.drift_of(key) < 0 else left for key, left in slacks.items()}

"""Walks: from a moment to the end by turns and cycles, with repetitions found on the way."""

from leastrooms.errors import TooLong
from leastrooms.items import DEEPEST
from leastrooms.moments import Moment
from leastrooms.rooms import LARGEST_ROOM
from leastrooms.tracks import Track, change_since, is_right_without_end, merged, most_goes, stretched

MOST_MOVES = 2000
LOOKED_AT = 60
LOOKED_AT_EAGERLY = 300


class Move:
    """A step, or an item made of several moves: the item, its slacks, and how many `times` are within each other."""

    def __init__(self, item, slacks, depth):
        self.item = item
        self.slacks = slacks
        self.depth = depth


class Mark:
    """A moment of a walk that may become the beginning of an item, and how many moves stand ahead of it."""

    def __init__(self, seen, ahead):
        self.seen = seen
        self.ahead = ahead


class Found:
    """A mark since which all may be repeated: the change, and the slacks of one go."""

    def __init__(self, mark, change, slacks):
        self.mark = mark
        self.change = change
        self.slacks = slacks


class Walk:
    """The moves from a moment to the end, or to an item that is right without end.

    An eager one comes to an end more often: it looks further back, and looks again behind each item.
    In an even one each turn is a single step, so that no process runs far ahead of the others.
    """

    def __init__(self, moment, is_eager, is_even=False):
        self.is_eager = is_eager
        self.is_even = is_even
        self.track = Track(moment)
        self.moves = []
        self.many = 0
        self.moving = []
        # The moment behind all moves, or ahead of the item without end.
        self.moment = None
        self._go()

    def told_items(self):
        """The items of a course that goes this way."""
        return [move.item for move in self.moves]

    def most_in(self, store):
        """The most that was at once in a store behind sends, 0 without any; None if it grows for ever."""
        limit = self.track.scene.limits[store]
        key = ("fill", store) if limit is None else ("rest", store)
        lefts = [move.slacks[key] for move in self.moves if key in move.slacks]
        if None in lefts:
            return None
        return (0 if limit is None else limit) - min(lefts) if lefts else 0

    def waits_for_room(self):
        """Whether some process waits for room for ever."""
        others = [process for process in self.moment.net.processes if process not in self.moving]
        waits = [self.moment.wait(process) for process in others]
        return any([wait is not None and wait[0] == "full" for wait in waits])

    def _go(self):
        marks = [self._mark()]
        while self.moment is None:
            if not self._cycle():
                self.moment = self.track.now()
                return
            found = self._found_since(marks, self.track.spots)
            before = self.many
            if not self._end_without_end(found):
                marks = self._fold(marks, found, self.track.spots)
                # Behind an item that was made, all may stand as it once stood, though not ahead of it.
                if self.is_eager and self.many > before:
                    self._end_without_end(self._found_since(marks, self.track.spots))
                marks.append(self._mark())

    def _cycle(self):
        """Do one turn of each process, and tell whether a step was done."""
        before = self.many
        for process in self.track.scene.net.processes:
            self._turn(process)
        return self.many > before

    def _turn(self, process):
        marks = []
        while self.track.reason_of(process) is None:
            marks.append(self._mark())
            stop = self.track.stop_of(process)
            _, done = self.track.spots[process]
            self._add(Move(process, self.track.step(process), 0))
            _, behind = self.track.spots[process]
            if self.is_even or (stop.totals[:1] == (None,) and behind[:1] != done[:1]):
                return
            marks = self._fold(marks, self._found_since(marks, [process]), [process])

    def _fold(self, marks, found, processes):
        """Make the item with the greatest K, if there is one, and return the marks that stay."""
        before = self.many
        marks = self._fold_once(marks, found, 2)
        while self.is_eager and self.many > before:
            before = self.many
            marks = self._fold_once(marks, self._found_since(marks, processes), 1)
        return marks

    def _fold_once(self, marks, found, unbound):
        """The same, but only once; unbound is K where it has no bound."""
        best = None
        most = 1
        for one in found:
            goes = most_goes(self.track, one.mark.seen, one.change, one.slacks)
            goes = unbound if goes is None else min(goes, LARGEST_ROOM)
            if goes > most and self._depth_since(one.mark) <= DEEPEST:
                best = one
                most = goes
        if best is None:
            return marks
        self._make(best, most, stretched(best.slacks, best.change, most))
        self.track.shift(best.change, most - 1)
        return [mark for mark in marks if mark.ahead <= best.mark.ahead]

    def _end_without_end(self, found):
        """Make the item without end, if there is one, and tell whether there is."""
        for one in found:
            if is_right_without_end(self.track, one.change) and self._depth_since(one.mark) <= DEEPEST:
                self._make(one, None, _without_bound(one.slacks, one.change))
                self.moving = sorted(one.change.gains)
                self.moment = Moment(self.track.scene, one.mark.seen[0], one.mark.seen[1])
                return True
        return False

    def _found_since(self, marks, processes):
        """The latest marks since which all of these processes may go on alike, the latest first."""
        found = []
        slacks = {}
        at = len(self.moves)
        latest = LOOKED_AT_EAGERLY if self.is_eager else LOOKED_AT
        for mark in reversed(list(marks[-latest:])):
            change = change_since(self.track, mark.seen, processes)
            if change is not None:
                for move in self.moves[mark.ahead:at]:
                    slacks = merged(slacks, move.slacks)
                at = mark.ahead
                found.append(Found(mark, change, slacks))
        return found

    def _make(self, found, goes, slacks):
        """Put one item in the place of the moves since a mark."""
        ahead = found.mark.ahead
        depth = self._depth_since(found.mark)
        item = ("times", goes, tuple([move.item for move in self.moves[ahead:]]))
        self.moves = self.moves[:ahead]
        self._add(Move(item, slacks, depth))

    def _depth_since(self, mark):
        return 1 + max([move.depth for move in self.moves[mark.ahead:]])

    def _add(self, move):
        self.many = self.many + 1
        if self.many > MOST_MOVES:
            raise TooLong()
        self.moves.append(move)

    def _mark(self):
        return Mark(self.track.marked(), len(self.moves))


def walk_from(moment, is_eager=False):
    """The Walk from a moment on: of this kind if it comes to an end, else of another one; else TooLong."""
    try:
        return Walk(moment, is_eager)
    except TooLong:
        return _other_walk(moment, not is_eager)


def _other_walk(moment, is_eager):
    try:
        return Walk(moment, is_eager)
    except TooLong:
        return Walk(moment, True, True)


def _without_bound(slacks, change):
    """The slacks of an item without end; None for a store that holds more and more."""
    return {key: None if change.drift_of(key) < 0 else left for key, left in slacks.items()}

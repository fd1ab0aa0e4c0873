"""Linings: lined papers, made of the runs at the first and at the last n."""

from leastrooms.ends import knots
from leastrooms.errors import TooLong
from leastrooms.lines import is_lined, line_between
from leastrooms.moments import begin, with_rooms
from leastrooms.papers import is_vector
from leastrooms.rooms import least_possible
from leastrooms.spans import last_of
from leastrooms.straight import numbers_at
from leastrooms.vectors import rooms_from, vector_from
from leastrooms.walks import Walk


class Linings:
    """What makes lined papers of a net; runs are kept, for the last n is often the same."""

    def __init__(self, net):
        self.net = net
        self.starts = {}
        self.kept = {}

    def lined(self, word, vector, first, step):
        """A lined paper of this kind with a tuple of Lines and None; None if the runs tell none."""
        for is_eager in (False, True):
            paper = self._lined_by(word, vector, first, step, is_eager)
            if paper is not None and is_lined(self.net, first, step, paper):
                return paper
        return None

    def _lined_by(self, word, vector, first, step, is_eager):
        last = last_of(first, step)
        one = self._paper(word, first, numbers_at(vector, 0), is_eager)
        other = self._paper(word, first + step * last, numbers_at(vector, last), is_eager)
        if one is None or other is None or one[1:] != other[1:]:
            return None
        items = _joined(one[0], other[0], last)
        return None if items is None else (word, vector, items) + one[1:]

    def _paper(self, word, n, numbers, is_eager):
        """The items of a run and, if it is stuck, its knot; None if there is no such run, or it is too long."""
        key = (word, n, numbers, is_eager)
        if key not in self.kept:
            self.kept[key] = self._new_paper(word, n, numbers, is_eager)
        return self.kept[key]

    def _new_paper(self, word, n, numbers, is_eager):
        # Lines through near rooms may lead far below the least ones.
        if not is_vector(self.net, vector_from(numbers)):
            return None
        if n not in self.starts:
            self.starts[n] = begin(self.net, n, least_possible(self.net))
        try:
            walk = Walk(with_rooms(self.starts[n], rooms_from(self.net.stores, numbers)), is_eager)
        except TooLong:
            return None
        if walk.waits_for_room() != (word == "stuck"):
            return None
        items = tuple(walk.told_items())
        return (items, tuple(knots(walk.moment, walk.moving)[0])) if word == "stuck" else (items,)


def _joined(one, other, last):
    """Items with the Lines that are these K at m = 0 and those at the last m; None if the form is not the same."""
    if len(one) != len(other):
        return None
    items = []
    for item, further in zip(one, other):
        joined = _joined_item(item, further, last)
        if joined is None:
            return None
        items.append(joined)
    return tuple(items)


def _joined_item(one, other, last):
    if isinstance(one, str) or isinstance(other, str):
        return one if one == other else None
    line = None
    if one[1] is not None and other[1] is not None:
        line = line_between(0, one[1], last, other[1])
    inner = _joined(one[2], other[2], last)
    if inner is None or (line is None and (one[1] is not None or other[1] is not None)):
        return None
    return ("times", line, inner)

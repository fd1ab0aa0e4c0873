"""Linings: lined papers, made of the runs at the first and at the last n."""

from leastrooms.cuts import steps_of
from leastrooms.lines import is_lined_from, line_between
from leastrooms.rooms import NO_LIMIT
from leastrooms.spans import last_of
from leastrooms.straight import numbers_at
from leastrooms.vectors import are_possible

MOST_NEAR = 10 ** 6


class Linings:
    """What makes lined papers of a net from first on, by step, out of the Outcomes of its runs."""

    def __init__(self, outcomes, first, step):
        self.outcomes = outcomes
        self.origin = first
        self.by = step
        self.last = last_of(first, step)
        net = outcomes.grounds.net
        self.nearby = max([_steps_once(net.row(process).parts, first) for process in net.processes])

    def all_lined(self, enough, stuck):
        """Two tuples of lined papers with these tuples of Lines and None; None if one of them can't be made."""
        told = [("enough", vector) for vector in enough] + [("stuck", vector) for vector in stuck]
        for word, vector in told:
            # That no paper can be made shows sooner than that it is not right.
            if self._paper(word, vector, False) is None and self._paper(word, vector, True) is None:
                return None
        papers = []
        for word, vector in told:
            paper = self._right_paper(word, vector)
            if paper is None:
                return None
            papers.append(paper)
        return tuple(papers[:len(enough)]), tuple(papers[len(enough):])

    def _right_paper(self, word, vector):
        for is_eager in (False, True):
            paper = self._paper(word, vector, is_eager)
            if paper is not None and is_lined_from(self.outcomes.grounds, self.origin, self.by, paper):
                return paper
        return None

    def _paper(self, word, vector, is_eager):
        """The paper whose items are those of the runs at m = 0 and at the last m; None if there is none."""
        is_short = word == "stuck"
        numbers = numbers_at(vector, 0)
        further = numbers_at(vector, self.last)
        # Lines may lead below the least rooms.
        if not are_possible(numbers, self.outcomes.floor) or not are_possible(further, self.outcomes.floor):
            return None
        other = self._outcome(self.origin + self.by * self.last, further, is_eager, is_short)
        if other is None or (self._is_near(numbers) and not self._may_be_joined(other.content)):
            return None
        one = self._outcome(self.origin, numbers, is_eager, is_short)
        if one is None or one.knot != other.knot:
            return None
        items = _joined_items(one.content, other.content, self.last)
        if items is None:
            return None
        return (word, vector, items, one.knot) if is_short else (word, vector, items)

    def _outcome(self, n, numbers, is_eager, is_short):
        """The Outcome of a run; None if it is too long, or the rooms are not so by this or by the plain run."""
        for kind in (False, is_eager):
            outcome = self.outcomes.at(n, numbers, kind)
            if outcome.content is not None and outcome.is_short != is_short:
                return None
        return None if outcome.content is None else outcome

    def _is_near(self, numbers):
        """Whether all is so near together at first that nothing is done as often there as the last m tells."""
        finite = [number for number in numbers if number != NO_LIMIT]
        return max(finite + [self.nearby]) <= MOST_NEAR

    def _may_be_joined(self, items):
        """Whether a Line may lead to each K of a run at the last m from a small one at m = 0, but 2 or more."""
        for item in items:
            if not isinstance(item, str):
                if item[1] is not None and item[1] % self.last < 2:
                    return False
                if not self._may_be_joined(item[2]):
                    return False
        return True


def _steps_once(parts, n):
    """How many steps parts have at n, of a forever those of one round."""
    if parts[-1:] and parts[-1][0] == "forever":
        return steps_of(parts[:-1], n) + steps_of(parts[-1][1], n)
    return steps_of(parts, n)


def _joined_items(one, other, last):
    """Items with the Lines that are these K at m = 0 and those at the last m; None if the form is not the same."""
    if len(one) != len(other):
        return None
    items = []
    for item, further in zip(one, other):
        joined = _joined_item(item, further, last)
        if joined is None:
            return None
        items.append(joined)
    return tuple(items)


def _joined_item(one, other, last):
    if isinstance(one, str) or isinstance(other, str):
        return one if one == other else None
    line = None
    if one[1] is not None and other[1] is not None:
        line = line_between(0, one[1], last, other[1])
    inner = _joined_items(one[2], other[2], last)
    if inner is None or (line is None and (one[1] is not None or other[1] is not None)):
        return None
    return ("times", line, inner)

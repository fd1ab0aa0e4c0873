"""Runs: whole runs of a net, however far they go."""

from leastrooms.courses import Course
from leastrooms.ends import knots, lost
from leastrooms.moments import begin
from leastrooms.nets import check_process
from leastrooms.walks import walk_from


class Run:
    """A run of a net: a course to the end, or to what goes on for ever, and who waits there for whom."""

    def __init__(self, walk):
        self.course = Course(walk.told_items())
        self.moment = walk.moment
        self.is_endless = self.course.total_steps is None
        self.is_enough = not walk.waits_for_room()
        self._movers = walk.moving
        self._lost = lost(walk.moment, walk.moving)
        self._knots = knots(walk.moment, walk.moving)

    @property
    def movers(self):
        """The processes that go on for ever, ascending."""
        return list(self._movers)

    @property
    def lost(self):
        """The processes that more room never helps, ascending."""
        return list(self._lost)

    @property
    def knots(self):
        """The knots in the end."""
        return [list(knot) for knot in self._knots]

    def state(self, process):
        """Whether a process has "ended", "moves", or what it waits for: "empty" or "full"."""
        check_process(self.moment.net, process)
        if process in self._movers:
            return "moves"
        word, _ = self.moment.wait(process)
        return word


def run(net, n, rooms):
    """The Run of a net at n with rooms."""
    return Run(walk_from(begin(net, n, rooms)))

"""Marks: moments of a walk that may become the beginning of an item."""


class Mark:
    """Where processes were, and all levels; and how many moves stood ahead.

    key: what tells the stops at which the processes were.
    """

    def __init__(self, key, spots, levels, ahead):
        self.key = key
        self.spots = spots
        self.levels = levels
        self.ahead = ahead
        # How many marks stand ahead of this one, and the latest of these with the same key.
        self.number = 0
        self.before = None


class Marks:
    """Marks in order; those with the same key are found without a look at the others."""

    def __init__(self, most):
        # Only so many of the latest ones are looked at.
        self.most = most
        self.marks = []
        self.latest = {}

    def put(self, mark):
        """Add a mark behind all others."""
        mark.number = len(self.marks)
        mark.before = self.latest.get(mark.key)
        self.latest[mark.key] = mark
        self.marks.append(mark)

    def drop_behind(self, ahead):
        """Look no more at marks with more moves ahead than these."""
        while self.marks[-1].ahead > ahead:
            mark = self.marks.pop()
            self.latest[mark.key] = mark.before

    def has(self, key):
        """Whether there is a mark with a key, however early."""
        return self.latest.get(key) is not None

    def alike(self, key):
        """The latest marks that have a key, the latest first."""
        found = []
        mark = self.latest.get(key)
        while mark is not None and mark.number >= len(self.marks) - self.most:
            found.append(mark)
            mark = mark.before
        return found

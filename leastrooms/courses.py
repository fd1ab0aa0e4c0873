"""Courses: many steps told in short, and whether they are possible from a moment on."""

from leastrooms.errors import BadCourse, NotRight
from leastrooms.followed import follow_item
from leastrooms.items import MOST_ITEMS, each_of, is_without_end, shape_of, total_of, words_of
from leastrooms.rooms import LARGEST_ROOM
from leastrooms.tracks import Track
from leastrooms.words import is_between


class Course:
    """A row of items: steps of processes, and repetitions of items."""

    def __init__(self, items=()):
        if not isinstance(items, (list, tuple)):
            raise BadCourse(items)
        content = tuple(items)
        if not are_items(content):
            raise BadCourse(items)
        self.content = content
        self.size, _ = shape_of(content)
        self.total_steps = total_of(content)

    def __add__(self, other):
        check_course(other)
        return Course(self.content + other.content)

    def __mul__(self, other):
        return Course((("times", other, self.content),))

    def __eq__(self, other):
        return isinstance(other, Course) and self.content == other.content

    def steps(self):
        """Yield the processes step by step, also without end."""
        yield from each_of(self.content)


def follow(moment, course):
    """The moment behind a course, or behind all ahead of its item without end."""
    check_course(course)
    return follow_traced(moment, course.content, [])


def follow_traced(moment, items, trace):
    """The same as follow, by the items of a course; all that is followed is added to the trace."""
    track = Track(moment)
    reached = None
    for index, item in enumerate(items):
        if index == len(items) - 1 and is_without_end(items):
            reached = track.now()
        if follow_item(track, item, trace) is None:
            raise NotRight(index)
    return track.now() if reached is None else reached


def are_items(thing):
    """Whether a value is a tuple of the items of a course."""
    if not isinstance(thing, tuple):
        return False
    size, counts = shape_of(thing)
    return size <= MOST_ITEMS and _are_counts(thing, counts)


def movers_of(course):
    """The processes with steps in the item without end of a course, ascending."""
    check_course(course)
    return movers_in(course.content)


def movers_in(items):
    """The processes with steps in the item without end of some items, ascending."""
    return words_of(items[-1:]) if is_without_end(items) else []


def check_course(course):
    """Raise BadCourse if a value is no Course."""
    if not isinstance(course, Course):
        raise BadCourse(course)


def _are_counts(content, counts):
    """Whether these are numbers of repetitions of a course; only its last item may have None."""
    ends = 1 if is_without_end(content) else 0
    # The K of the last item stands ahead of those within it, and those behind the others.
    finite = [count for count in counts if count is not None]
    if len(counts) - len(finite) != ends:
        return False
    return all([is_between(count, 1, LARGEST_ROOM) for count in finite])

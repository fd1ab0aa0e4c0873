"""Lines: numbers that are straight in m, and papers that are right for all m at once."""

from leastrooms.errors import BadLine, BadNumber, BadPaper
from leastrooms.items import MOST_ITEMS, shape_of
from leastrooms.moments import Grounds
from leastrooms.nets import check_net
from leastrooms.papers import reached_enough, reached_stuck
from leastrooms.spans import ends_of_spans
from leastrooms.words import LARGEST_NUMBER, check_number, is_between, is_integer, is_tuple_of

MOST = 10 ** 50 * 10 ** 50 * 10 ** 50 * 10 ** 50 * 10 ** 50 * 10 ** 50 * 10 ** 50 * 10 ** 50
LONGEST_STEP = 9


class Line:
    """The numbers at_zero + slope * m."""

    def __init__(self, at_zero, slope=0):
        for number in (at_zero, slope):
            if not is_between(number, -MOST, MOST):
                raise BadLine(number)
        self.at_zero = at_zero
        self.slope = slope

    def __call__(self, m):
        if not is_between(m, 0, LARGEST_NUMBER):
            raise BadNumber(m)
        return self.at_zero + self.slope * m

    def __add__(self, other):
        at_zero, slope = _numbers_of(other)
        return Line(self.at_zero + at_zero, self.slope + slope)

    def __sub__(self, other):
        at_zero, slope = _numbers_of(other)
        return Line(self.at_zero - at_zero, self.slope - slope)

    def __mul__(self, other):
        if not is_integer(other):
            raise BadLine(other)
        return Line(self.at_zero * other, self.slope * other)

    def __eq__(self, other):
        return isinstance(other, Line) and self.at_zero == other.at_zero and self.slope == other.slope

    def __str__(self):
        if self.slope == 0:
            return str(self.at_zero)
        tail = f"{self.at_zero:+}" if self.at_zero != 0 else ""
        return f"{_head_of(self.slope)}{tail}"

    @staticmethod
    def through(m, value, other, further):
        """The Line that is value at m and further at other."""
        line = line_between(m, value, other, further)
        if line is None:
            raise BadLine((m, value, other, further))
        return line


def line_between(m, value, other, further):
    """The Line that is value at m and further at other, four values of any kind; None if there is none."""
    if not all([is_integer(number) for number in (m, value, other, further)]) or not 0 <= m < other:
        return None
    slope, rest = divmod(further - value, other - m)
    at_zero = value - slope * m
    if rest != 0 or not is_between(slope, -MOST, MOST) or not is_between(at_zero, -MOST, MOST):
        return None
    return Line(at_zero, slope)


def paper_at(paper, m):
    """The paper that a lined paper is at m."""
    if not _is_formed(paper):
        raise BadPaper(paper)
    if not is_between(m, 0, LARGEST_NUMBER):
        raise BadNumber(m)
    return paper_of(paper, m)


def paper_of(paper, m):
    """The paper that a lined paper, known to be one, is at m."""
    return (paper[0], values_at(paper[1], m), _items_at(paper[2], m)) + paper[3:]


def is_lined(net, first, step, thing):
    """Whether a value is a lined paper that is right at all n that are first and so many steps more."""
    check_net(net)
    check_number(first)
    if not is_between(step, 1, LONGEST_STEP):
        raise BadNumber(step)
    return is_lined_from(Grounds(net), first, step, thing)


def is_lined_from(grounds, first, step, thing):
    """The same as is_lined, with the Grounds of the net."""
    if not _is_formed(thing):
        return False
    start = _reached_at(grounds, first, step, thing, 0)
    spans = ends_of_spans(grounds.net, first, step)
    return start is not None and all([
        _is_alike(grounds, first, step, thing, start, low, high) for low, high in spans
    ])


def values_at(vector, m):
    """The values at m of a tuple of Lines and None."""
    return tuple([None if line is None else line(m) for line in vector])


def _is_alike(grounds, first, step, paper, start, low, high):
    """Whether a paper is right from low to high, in the same way as at the first m."""
    # All numbers are straight in m there, so what holds at both ends holds between.
    one = start if low == 0 else _reached_at(grounds, first, step, paper, low)
    other = one if low == high else _reached_at(grounds, first, step, paper, high)
    if one is None or other is None or one.told_waits() != other.told_waits():
        return False
    return _goes_like(start, one) and _goes_like(start, other)


def _goes_like(one, other):
    """Whether two courses of the same form go the same way."""
    return all([followed.is_like(further) for followed, further in zip(one.trace, other.trace)])


def _reached_at(grounds, first, step, paper, m):
    """Where a lined paper leads at m; None if it is not right there."""
    single = paper_of(paper, m)
    start = grounds.at(first + step * m)
    return reached_enough(start, single) if paper[0] == "enough" else reached_stuck(start, single)


def _is_formed(thing):
    """Whether a value has the form of a lined paper."""
    if not is_tuple_of(thing, "enough", 3) and not (is_tuple_of(thing, "stuck", 4) and isinstance(thing[3], tuple)):
        return False
    if not isinstance(thing[1], tuple) or not isinstance(thing[2], tuple):
        return False
    many, counts = shape_of(thing[2])
    return many <= MOST_ITEMS and all([_is_lined_number(line) for line in list(thing[1]) + counts])


def _is_lined_number(thing):
    return thing is None or isinstance(thing, Line)


def _items_at(items, m):
    return tuple([item if isinstance(item, str) else _times_at(item, m) for item in items])


def _times_at(item, m):
    word, line, inner = item
    return (word, None if line is None else line(m), _items_at(inner, m))


def _numbers_of(other):
    """The two numbers of a Line, or of an integer."""
    if isinstance(other, Line):
        return other.at_zero, other.slope
    if not is_integer(other):
        raise BadLine(other)
    return other, 0


def _head_of(slope):
    if slope == 1:
        return "m"
    return "-m" if slope == -1 else f"{slope}m"

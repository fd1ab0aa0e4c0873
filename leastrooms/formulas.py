"""Formulas: least rooms and corners for all n, as lines."""

from leastrooms.covers import is_covered
from leastrooms.errors import BadNumber, NotStraight, TooLong
from leastrooms.lines import LONGEST_STEP, Line, is_lined_from
from leastrooms.linings import Linings
from leastrooms.moments import Grounds
from leastrooms.nets import check_net
from leastrooms.outcomes import Outcomes
from leastrooms.papers import is_told
from leastrooms.rooms import NO_LIMIT
from leastrooms.searches import Search
from leastrooms.spans import last_of
from leastrooms.straight import beside, lines_from, moved_back, numbers_at, told_at
from leastrooms.vectors import least_numbers, rooms_from
from leastrooms.words import LARGEST_NUMBER, check_number, is_between, is_tuple_of

LONGEST_PERIOD = 4
LATEST_START = 24


class Known:
    """The least rooms and the corners of a net at n, as numbers; each is found once."""

    def __init__(self, outcomes):
        self.net = outcomes.grounds.net
        self.outcomes = outcomes
        self.table = {}

    def at(self, n, step=1):
        """A tuple of two lists of tuples of numbers, both in order; step: by which n they may be straight."""
        if n not in self.table:
            search = Search(self.net, n, self._straight_on(n, step))
            self.table[n] = (search.enough, search.corners)
        return self.table[n]

    def are_told(self, n, told):
        """Whether a tuple of two lists of tuples of numbers tells the same as at, but for their order."""
        found = tuple([sorted(numbers) for numbers in told])
        if n not in self.table:
            if not self.outcomes.tell_all(n, found[0], found[1]):
                return False
            self.table[n] = found
        return self.table[n] == found

    def _straight_on(self, n, step):
        """What are corners if these go straight on from what is known, as near as can be."""
        for near, one, other in ((n - step, n - 2 * step, n - step), (n + step, n + 2 * step, n + step)):
            if one in self.table and other in self.table:
                return self._beside(near, one, other)
        for one in self.table:
            if one + step in self.table and n + step in self.table:
                return self._beside(n + step, one + step, one)
        return []

    def _beside(self, near, one, other):
        """The corners that are as far from those at near as those at other from those at one."""
        told = [self.table[n][1] for n in (near, one, other)]
        if len(told[0]) != len(told[1]) or len(told[0]) != len(told[2]):
            return []
        return [beside(numbers, before, behind) for numbers, before, behind in zip(told[0], told[1], told[2])]


class Piece:
    """Lined papers for first + step * m, and what their vectors are: all least rooms, and all corners."""

    def __init__(self, first, step, enough, stuck):
        self.origin = first
        self.by = step
        self.enough = enough
        self.stuck = stuck

    def told(self, rest, period):
        """The vectors as lines in n // period, for n with this rest; two lists of tuples of numbers."""
        return tuple([
            sorted([self._shifted(paper[1], rest, period) for paper in papers]) for papers in (self.enough, self.stuck)
        ])

    def _shifted(self, vector, rest, period):
        return tuple([(NO_LIMIT, 0, 1) if line is None else self._shifted_line(line, rest, period) for line in vector])

    def _shifted_line(self, line, rest, period):
        """The numbers at_zero and slope, both times step, and step."""
        return (line.at_zero * self.by + line.slope * (rest - self.origin), line.slope * period, self.by)


class Formulas:
    """The least rooms and the corners of a net for all n."""

    def __init__(self, net, known, pieces):
        self._net = net
        self._known = known
        self._pieces = pieces
        self._period, self._lines = _shortest(pieces)
        self._start = _earliest(known, pieces, self._period, self._lines)

    @property
    def period(self):
        """For how many rests there are lines of their own."""
        return self._period

    @property
    def start(self):
        """The first n from which on the lines tell all."""
        return self._start

    def least_lines(self, rest):
        """The least rooms, for n with this rest: dicts from stores to Lines or None."""
        return self._told(rest, 0)

    def corner_lines(self, rest):
        """The corners, for n with this rest: dicts from stores to Lines or None."""
        return self._told(rest, 1)

    def least_at(self, n):
        """All least Rooms that are enough, ascending."""
        check_number(n)
        return self._rooms_at(n, 0)

    def corners_at(self, n):
        """All greatest Rooms that are not enough, ascending."""
        check_number(n)
        return self._rooms_at(n, 1)

    def papers(self):
        """A list of tuples (first, step, enough, stuck) with lined papers, in the order of the rests by step."""
        return [(piece.origin, piece.by, piece.enough, piece.stuck) for piece in self._pieces]

    def _told(self, rest, kind):
        if not is_between(rest, 0, self._period - 1):
            raise BadNumber(rest)
        return [dict(zip(self._net.stores, vector)) for vector in self._lines[rest][kind]]

    def _rooms_at(self, n, kind):
        if n < self._start:
            found = self._known.at(n)[kind]
        else:
            m, rest = divmod(n, self._period)
            found = sorted([numbers_at(vector, m) for vector in self._lines[rest][kind]])
        return [rooms_from(self._net.stores, numbers) for numbers in found]


def formulas(net):
    """The Formulas of a net; NotStraight if no lines tell its rooms."""
    check_net(net)
    known = Known(Outcomes(Grounds(net)))
    for step in range(1, LONGEST_PERIOD + 1):
        pieces = _pieces_by(known, step)
        if pieces is not None:
            return Formulas(net, known, pieces)
    raise NotStraight()


def judge_lines(net, thing):
    """The first verdict that applies to what seems to be one of the tuples of papers()."""
    check_net(net)
    if not _is_formed(thing):
        return ("form",)
    first, step, enough, stuck = thing
    grounds = Grounds(net)
    for index, paper in enumerate(enough):
        if not is_tuple_of(paper, "enough", 3) or not is_lined_from(grounds, first, step, paper):
            return ("enough", index)
    for index, paper in enumerate(stuck):
        if not is_tuple_of(paper, "stuck", 4) or not is_lined_from(grounds, first, step, paper):
            return ("stuck", index)
    return ("accepted",) if _tells_all(net, first, step, enough, stuck) else ("cover",)


def _tells_all(net, first, step, enough, stuck):
    """Whether right papers tell all least rooms and all corners."""
    vectors = [[paper[1] for paper in papers] for papers in (enough, stuck)]
    return is_covered(least_numbers(net), last_of(first, step), vectors[0], vectors[1])


def _is_formed(thing):
    if not isinstance(thing, tuple) or len(thing) != 4:
        return False
    first, step, enough, stuck = thing
    if not is_between(first, 0, LARGEST_NUMBER) or not is_between(step, 1, LONGEST_STEP):
        return False
    return is_told(enough) and is_told(stuck)


def _pieces_by(known, step):
    """A Piece for each rest by step, in order; None if there is none for some rest."""
    pieces = []
    for rest in range(step):
        piece = _first_piece(known, step, rest)
        if piece is None:
            return None
        pieces.append(piece)
    return pieces


def _first_piece(known, step, rest):
    last = LATEST_START - (LATEST_START - rest) % step
    try:
        # Lines that begin earlier go on there.
        lines = lines_from(known, last, step)
    except TooLong:
        return _nearest_piece(known, step, rest)
    if lines is None:
        return None
    for first in range(rest, last + 1, step):
        piece = _piece_at(known, first, step, moved_back(lines, (last - first) // step))
        if piece is not None:
            return piece
        # Whether there are lines at all is asked only where the first ones are not right.
        if first == 0 and not _go_on(known, last, step, lines):
            return None
    return None


def _nearest_piece(known, step, rest):
    """The same, by lines near to each first."""
    for first in range(rest, LATEST_START + 1, step):
        lines = lines_from(known, first, step)
        piece = None if lines is None else _piece_at(known, first, step, lines)
        if piece is not None:
            return piece
    return None


def _go_on(known, first, step, lines):
    """Whether lines tell the rooms at m = 3; True if a run there is too long."""
    try:
        return known.are_told(first + 3 * step, told_at(lines, 3))
    except TooLong:
        return True


def _piece_at(known, first, step, lines):
    """The Piece with these lines from first on; None if they are not right there, or no linings show it."""
    papers = Linings(known.outcomes, first, step).all_lined(lines[0], lines[1])
    # What linings tell is right.
    if papers is None or not _tells_all(known.net, first, step, papers[0], papers[1]):
        return None
    return Piece(first, step, papers[0], papers[1])


def _shortest(pieces):
    """The least period, and for each rest two lists of tuples of Lines and None."""
    for period in range(1, len(pieces)):
        lines = _lines_by(pieces, period)
        if None not in lines:
            return period, lines
    return len(pieces), _lines_by(pieces, len(pieces))


def _lines_by(pieces, period):
    """For each rest the lines in n // period, None where there are none."""
    return [_lines_of_rest(pieces, period, rest) for rest in range(period)]


def _lines_of_rest(pieces, period, rest):
    # All n with this rest, by their rests of both kinds.
    told = [pieces[n % len(pieces)].told(rest, period) for n in range(rest, rest + period * len(pieces), period)]
    if not all([one == told[0] for one in told]):
        return None
    whole = [number % step == 0 for kind in told[0] for vector in kind for at_zero, slope, step in vector
             for number in (at_zero, slope)]
    if not all(whole):
        return None
    return [_in_order(kind, rest, period) for kind in told[0]]


def _in_order(kind, rest, period):
    """Tuples of Lines and None in the order of the rooms at the last n."""
    last = (LARGEST_NUMBER - rest) // period
    vectors = [tuple([_line_of(numbers) for numbers in vector]) for vector in kind]
    places = sorted([(numbers_at(vector, last), place) for place, vector in enumerate(vectors)])
    return [vectors[place] for _, place in places]


def _line_of(numbers):
    at_zero, slope, step = numbers
    return None if at_zero == NO_LIMIT * step and slope == 0 else Line(at_zero // step, slope // step)


def _earliest(known, pieces, period, lines):
    """The first n from which on the lines tell all rooms."""
    start = max([piece.origin for piece in pieces])
    while start > 0 and _are_told(known, pieces, period, lines, start - 1):
        start = start - 1
    return start


def _are_told(known, pieces, period, lines, n):
    """Whether the lines tell the rooms at n."""
    if n >= pieces[n % len(pieces)].origin:
        return True
    m, rest = divmod(n, period)
    return known.are_told(n, told_at(lines[rest], m))

"""Rows of parts: the programs that processes go through."""

from leastrooms.counts import count_of, format_count, is_count, rounds
from leastrooms.errors import BadRow
from leastrooms.words import check_number, is_between, is_word

MOST_PARTS = 60
MOST_LOOPS = 4
MOST_AT_ONCE = 9
LONGEST_WORK = 99
# Told instead of how many parts there are, where they make no row.
NO_ROW = MOST_PARTS + 1


class Row:
    """A row of parts: sends, takes, works, and loops of these."""

    def __init__(self, parts=()):
        if not isinstance(parts, (list, tuple)):
            raise BadRow(parts)
        kept = tuple(parts)
        if not are_parts_of_row(kept):
            raise BadRow(parts)
        self.parts = kept
        self.size = _how_many(kept, 0)

    def __add__(self, other):
        check_row(other)
        return Row(self.parts + other.parts)

    def __mul__(self, other):
        return loop(other, self)

    def __eq__(self, other):
        return isinstance(other, Row) and self.parts == other.parts

    def __str__(self):
        return str(_text_of(self.parts))


def send(channel, k=1):
    """The row of one part that sends k messages at once."""
    return _row_of(("send", channel, k))


def take(channel, k=1):
    """The row of one part that takes k messages at once."""
    return _row_of(("take", channel, k))


def work(time):
    """The row of one part that works so long."""
    return _row_of(("work", time))


def loop(count, row):
    """The row of one loop; count is an integer, a count or the text of one."""
    plain = count_of(count)
    check_row(row)
    return _row_of(("loop", plain, row.parts))


def forever(row):
    """The row of one part that does a row again and again."""
    check_row(row)
    return _row_of(("forever", row.parts))


def channels_of(row):
    """The words of all channels of a row, ascending."""
    check_row(row)
    return sorted({part[1] for part in single_parts(row.parts) if part[0] != "work"})


def messages(row, n):
    """How many messages each send and take of a row moves in all at n, None if without end."""
    check_row(row)
    check_number(n)
    sums = {}
    for part, times in _times_done(row.parts, n, 1):
        if part[0] != "work":
            key = (part[0], part[1])
            before = sums.get(key, 0)
            sums[key] = None if before is None or times is None else before + times * part[2]
    return sums


def are_parts_of_row(thing):
    """Whether a value is a row of parts."""
    return isinstance(thing, tuple) and _how_many(thing, 0) <= MOST_PARTS and _goes_on_last(thing)


def check_row(row):
    """Raise BadRow if a value is no Row."""
    if not isinstance(row, Row):
        raise BadRow(row)


def single_parts(parts):
    """All sends, takes and works among parts, inner ones included, as a list."""
    found = []
    for part in parts:
        found.extend(single_parts(inner_parts(part)) if is_round(part) else [part])
    return found


def is_round(part):
    """Whether a part of a row is a loop or a forever."""
    return part[0] in ("loop", "forever")


def inner_parts(part):
    """The parts within a loop or a forever."""
    return part[-1]


def _row_of(part):
    """The row of one part; BadRow keeps the part itself, if it makes none."""
    if _size_of(part, 0) > MOST_PARTS:
        raise BadRow(part)
    return Row((part,))


def _how_many(parts, depth):
    """How many parts these are, inner ones included; NO_ROW or more if they make none that deep."""
    if not isinstance(parts, tuple):
        return NO_ROW
    many = 0
    for part in parts:
        many = many + _size_of(part, depth)
        # Parts may stand within each other many times over, so the rest is not looked at.
        if many > MOST_PARTS:
            return NO_ROW
    return many


def _size_of(part, depth):
    """How many parts one part is, with its inner ones; NO_ROW or more if it is none that deep."""
    if not isinstance(part, tuple) or not part or not isinstance(part[0], str):
        return NO_ROW
    if is_round(part):
        return 1 + _how_many(part[-1], depth + 1) if _is_head(part, depth) else NO_ROW
    return 1 if _is_single(part) else NO_ROW


def _is_head(part, depth):
    """Whether a loop or a forever that deep is right, but for its inner parts."""
    if part[0] == "forever":
        return len(part) == 2 and depth == 0
    return len(part) == 3 and is_count(part[1]) and depth < MOST_LOOPS


def _is_single(part):
    """Whether a tuple is a send, a take or a work."""
    if part[0] == "work":
        return len(part) == 2 and is_between(part[1], 1, LONGEST_WORK)
    if part[0] not in ("send", "take") or len(part) != 3:
        return False
    return is_word(part[1]) and is_between(part[2], 1, MOST_AT_ONCE)


def _goes_on_last(parts):
    """Whether none of the outermost parts but the last is a forever."""
    return all([part[0] != "forever" for part in parts[:-1]])


def _times_done(parts, n, times):
    """A list of each send, take and work, and how often it is done at n, None if without end."""
    found = []
    for part in parts:
        if is_round(part):
            found.extend(_times_done(inner_parts(part), n, _times_within(part, n, times)))
        else:
            found.append((part, times))
    return found


def _times_within(part, n, times):
    """How often the parts within a loop or a forever are done that itself is done so often."""
    if part[0] == "forever":
        return None
    each = rounds(part[1], n)
    if times is None:
        return None if each > 0 else 0
    return times * each


def _text_of(parts):
    return "; ".join([_text_of_part(part) for part in parts])


def _text_of_part(part):
    word = part[0]
    if word == "loop":
        return f"loop {format_count(part[1])} ({_text_of(part[2])})"
    if word == "forever":
        return f"forever ({_text_of(part[1])})"
    if word == "work" or part[2] == 1:
        return f"{word} {part[1]}"
    return f"{word} {part[1]} {part[2]}"

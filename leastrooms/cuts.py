"""Cuts: how many steps parts have, and the parts of the first ones."""

from leastrooms.counts import rounds
from leastrooms.rows import inner_parts, is_round


def steps_of(parts, n):
    """How many steps parts have at n, None if without end."""
    many = 0
    for part in parts:
        more = _steps_of_part(part, n)
        if more is None:
            return None
        many = many + more
    return many


def first_parts(parts, n, steps):
    """The parts of the first so many steps at n, as a tuple; there may be more of them than a row has."""
    kept = ()
    left = steps
    for part in parts:
        if left == 0:
            return kept
        more = _steps_of_part(part, n)
        if more is None or more > left:
            return kept + _first_rounds(part, n, left)
        if more > 0:
            kept = kept + (part,)
            left = left - more
    return kept


def _first_rounds(part, n, left):
    """What stays of a loop or a forever that has more steps than are left."""
    inner = inner_parts(part)
    whole, rest = divmod(left, steps_of(inner, n))
    head = (("loop", (0, whole), inner),) if whole > 0 else ()
    return head + first_parts(inner, n, rest)


def _steps_of_part(part, n):
    if not is_round(part):
        return 1
    each = steps_of(inner_parts(part), n)
    if part[0] == "forever":
        return None if each > 0 else 0
    return rounds(part[1], n) * each

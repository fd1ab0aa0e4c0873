"""Counts: how many rounds a loop has, told by a number n."""

from leastrooms.errors import BadCount, BadText
from leastrooms.figures import figures_of
from leastrooms.words import LARGEST_NUMBER, check_number, is_between, is_integer

# No text of a count is longer: "9n-1" and thirty noughts have thirty-four signs.
LONGEST_TEXT = 34


def is_count(thing):
    """Whether a value is a count."""
    if not isinstance(thing, tuple) or len(thing) != 2:
        return False
    a, b = thing
    if not is_between(a, 0, 9) or not is_between(b, -LARGEST_NUMBER, LARGEST_NUMBER):
        return False
    return a > 0 or b >= 0


def rounds(count, n):
    """How many rounds a count means for a number n."""
    _check_count(count)
    check_number(n)
    a, b = count
    return max(0, a * n + b)


def format_count(count):
    """The text of a count."""
    _check_count(count)
    return _written(count)


def parse_count(text):
    """The count of a text that format_count writes."""
    count = read_count(text)
    if count is None:
        raise BadText(text)
    return count


def count_of(thing):
    """The count that an integer, a count or the text of one tells."""
    count = thing
    if is_integer(thing):
        count = (0, thing)
    elif isinstance(thing, str):
        count = read_count(thing)
    if not is_count(count):
        raise BadCount(thing)
    return count


def _check_count(count):
    if not is_count(count):
        raise BadCount(count)


def _written(count):
    a, b = count
    if a == 0:
        return str(b)
    head = "n" if a == 1 else f"{a}n"
    return f"{head}{b:+}" if b != 0 else head


def read_count(text):
    """The count that a text tells; None if it is not written just as counts are."""
    # The length comes first: Python refuses to read numbers of thousands of figures.
    if not isinstance(text, str) or len(text) > LONGEST_TEXT:
        return None
    count = _read_freely(text)
    if not is_count(count) or _written(count) != text:
        return None
    return count


def _read_freely(text):
    """The count that a text seems to tell; the caller looks whether it is one, and written so."""
    head, letter, tail = text.partition("n")
    if letter == "":
        return (0, figures_of(text, LONGEST_TEXT))
    a = 1 if head == "" else figures_of(head, LONGEST_TEXT)
    if tail == "":
        return (a, 0)
    b = figures_of(tail[1:], LONGEST_TEXT)
    return (a, -b if tail[0] == "-" and b is not None else b)

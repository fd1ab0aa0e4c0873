"""Texts of rows: the programs as they are written."""

from leastrooms.counts import read_count
from leastrooms.errors import BadText
from leastrooms.figures import figures_of
from leastrooms.rows import MOST_LOOPS, Row, are_parts_of_row
from leastrooms.words import is_among

# No row has a longer text: sixty parts of at most forty-four signs, the "; " behind them included.
LONGEST_TEXT = 60 * 44


def parse_row(text):
    """The Row of a text that str writes."""
    parts = None
    if isinstance(text, str) and len(text) <= LONGEST_TEXT:
        parts = _parts_in(text, 0)
    if not are_parts_of_row(parts):
        raise BadText(text)
    row = Row(parts)
    # What seemed to be parts may have been written in another way.
    if str(row) != text:
        raise BadText(text)
    return row


def _parts_in(text, depth):
    """The parts that a text seems to tell, as a tuple with None for each that is none; None if it is too deep."""
    if depth > MOST_LOOPS:
        return None
    return tuple([_part_in(piece, depth) for piece in _pieces_of(text)])


def _pieces_of(text):
    """What stands between those "; " of a text that are outside of brackets."""
    if text == "":
        return []
    pieces = []
    depth = 0
    start = 0
    for at, sign in enumerate(text):
        if sign == "(":
            depth = depth + 1
        elif sign == ")":
            depth = depth - 1
        elif sign == ";" and depth == 0:
            pieces.append(text[start:at])
            start = at + len("; ")
    return pieces + [text[start:]]


def _part_in(text, depth):
    """The part that a text seems to tell, None if it tells none."""
    head, bracket, tail = text.partition(" (")
    if bracket == "":
        return _single_in(text.split(" "))
    parts = _parts_in(tail[:-1], depth + 1)
    if head == "forever":
        return ("forever", parts)
    word, _, count = head.partition(" ")
    return ("loop", read_count(count), parts) if word == "loop" else None


def _single_in(words):
    """The send, take or work that words seem to tell, None if they tell none."""
    if words[0] == "work" and len(words) == 2:
        return ("work", figures_of(words[1], 2))
    if not is_among(words[0], ("send", "take")) or not 2 <= len(words) <= 3:
        return None
    return (words[0], words[1], figures_of(words[2], 1) if len(words) == 3 else 1)

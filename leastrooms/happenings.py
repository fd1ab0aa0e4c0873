"""Events of desks: what they are, and the lines of plans that tell them."""

from leastrooms.changes import is_change
from leastrooms.errors import BadText
from leastrooms.figures import figures_of
from leastrooms.rooms import is_room
from leastrooms.rows import Row
from leastrooms.texts import parse_row
from leastrooms.words import LARGEST_NUMBER, is_among, is_between, is_tuple_of, is_word

# Of 10 ** 30, and of 10 ** 200.
FIGURES_OF_NUMBER = 31
FIGURES_OF_ROOM = 201


def is_event(thing):
    """Whether a value is an event."""
    if is_tuple_of(thing, "room", 3):
        return is_word(thing[1]) and is_room(thing[2])
    if is_tuple_of(thing, "n", 2):
        return is_between(thing[1], 0, LARGEST_NUMBER)
    return is_tuple_of(thing, "change", 2) or is_tuple_of(thing, "undo", 1)


def is_told_event(thing):
    """Whether a value is an event that a plan can tell: what it calls a change is one."""
    return is_event(thing) and (thing[0] != "change" or is_change(thing[1]))


def line_of(event):
    """The line of a plan that tells an event, without its line feed."""
    told = event[1] if event[0] == "change" else event
    if told[0] == "row":
        return f"row {told[1]} {Row(told[2])}"
    if told[0] == "join":
        return " ".join(["join", told[1]] + list(told[2]))
    return " ".join(["none" if thing is None else str(thing) for thing in told])


def event_of(line):
    """The event that a line of a plan tells; None if it is not written just as line_of writes it."""
    event = _event_in(line)
    return event if is_told_event(event) and line_of(event) == line else None


def _event_in(line):
    """The event that a line seems to tell; the caller looks whether it is one, and written so."""
    words = line.split(" ")
    if words[0] == "room" and len(words) == 3:
        return ("room", words[1], figures_of(words[2], FIGURES_OF_ROOM))
    if words[0] == "n" and len(words) == 2:
        return ("n", figures_of(words[1], FIGURES_OF_NUMBER))
    if words[0] == "undo":
        return ("undo",)
    return ("change", _change_in(words, line))


def _change_in(words, line):
    """The change that a line seems to tell."""
    if words[0] == "row" and len(words) > 2:
        return _row_in(words[1], line[len("row ") + len(words[1]) + len(" "):])
    if words[0] == "join":
        return ("join", words[1] if len(words) > 1 else "", tuple(words[2:]))
    if is_among(words[0], ("first", "kill")):
        return tuple(words[:2] + [figures_of(figures, FIGURES_OF_NUMBER) for figures in words[2:]])
    return tuple(words)


def _row_in(process, text):
    try:
        row = parse_row(text)
    except BadText:
        return None
    return ("row", process, row.parts)

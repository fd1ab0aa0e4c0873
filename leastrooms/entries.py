"""Entries: what is kept of steps with values."""

from leastrooms.rows import LONGEST_WORK, MOST_AT_ONCE
from leastrooms.words import is_among, is_between, is_word

MOST_VALUE = 10 ** 15


def is_entry(thing):
    """Whether a value is an entry: a tuple of a process, a word, a name and values."""
    if not isinstance(thing, tuple) or len(thing) != 4:
        return False
    process, word, name, values = thing
    if not is_word(process) or not isinstance(values, tuple):
        return False
    if is_among(word, ("work",)):
        return is_between(name, 1, LONGEST_WORK) and len(values) == 0
    if not is_among(word, ("send", "take")) or not is_word(name) or not 1 <= len(values) <= MOST_AT_ONCE:
        return False
    return all([is_between(value, 0, MOST_VALUE) for value in values])


def are_same(entry, thing):
    """Whether a value of any kind is just this entry."""
    # Only of entries equality tells enough: True is no integer.
    return is_entry(thing) and thing == entry

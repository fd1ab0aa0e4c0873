"""Journals: entries as a text, line by line, each with a check of all ahead of it."""

from leastrooms.engine import follow_entries
from leastrooms.entries import is_entry
from leastrooms.errors import BadEntries, BadJournal
from leastrooms.figures import figures_of

FIRST_CHECK = 7
FACTOR = 131
MODULUS = 9973
# No number in a line has more figures: a value is at most 10 ** 15.
MOST_FIGURES = 16


class Reading:
    """The entries of the lines of a journal that are right, and the index of the first that is not, or None."""

    def __init__(self, entries, wrong):
        self.entries = entries
        self.wrong = wrong


def write_journal(entries):
    """The text that tells entries."""
    if not isinstance(entries, (list, tuple)) or not all([is_entry(entry) for entry in entries]):
        raise BadEntries(entries)
    lines = []
    check = FIRST_CHECK
    for entry in entries:
        told = _unchecked_line(entry)
        check = _check_behind(check, told)
        lines.append(f"{told} {check}\n")
    return "".join(lines)


def read_journal(text):
    """The entries of a text that write_journal writes."""
    reading = _reading_of(text)
    if reading.wrong is not None:
        raise BadJournal(reading.wrong)
    return reading.entries


def recover(text):
    """The entries of all lines ahead of the first that is not right."""
    return _reading_of(text).entries


def resume(engine, text):
    """Do the steps that a journal tells, as long as the engine has the same entries, and return how many."""
    return follow_entries(engine, recover(text))


def _reading_of(text):
    """The Reading of a text; BadJournal if it is none."""
    if not isinstance(text, str):
        raise BadJournal(0)
    lines = text.split("\n")
    entries = []
    check = FIRST_CHECK
    for index, line in enumerate(lines[:-1]):
        told, _, tail = line.rpartition(" ")
        entry = _entry_of(told)
        check = _check_behind(check, told)
        if entry is None or str(check) != tail:
            return Reading(entries, index)
        entries.append(entry)
    # What stands behind the last line feed is a line without one.
    return Reading(entries, None if lines[-1] == "" else len(lines) - 1)


def _unchecked_line(entry):
    """The line of an entry, but for its check."""
    process, word, name, values = entry
    return " ".join([process, word, str(name)] + [str(value) for value in values])


def _check_behind(check, told):
    for sign in told:
        check = (check * FACTOR + ord(sign)) % MODULUS
    return check


def _entry_of(told):
    """The entry of a line without its check; None if it is not written just so."""
    words = told.split(" ")
    if len(words) < 3:
        return None
    process, word, name = words[:3]
    numbers = [figures_of(figures, MOST_FIGURES) for figures in words[3:]]
    entry = (process, word, figures_of(name, MOST_FIGURES) if word == "work" else name, tuple(numbers))
    return entry if is_entry(entry) else None

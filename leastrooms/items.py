"""Items: processes and repetitions of items, in which courses are told in short."""

from leastrooms.words import is_word

MOST_ITEMS = 2000
DEEPEST = 40
# Told instead of how many items there are, where they are none.
NO_ITEMS = MOST_ITEMS + 1


def shape_of(items):
    """How many items these are, inner ones included, and a list of all K; NO_ITEMS or more if they are none."""
    return _shape_within(items, 0)


def is_times(thing):
    """Whether a value is a repetition of at least one thing, whatever its K and the thing are."""
    if not isinstance(thing, tuple) or len(thing) != 3:
        return False
    if not isinstance(thing[0], str) or thing[0] != "times":
        return False
    return isinstance(thing[2], tuple) and len(thing[2]) > 0


def is_without_end(items):
    """Whether the last one of some items is repeated without end."""
    return len(items) > 0 and is_times(items[-1]) and items[-1][1] is None


def each_of(items):
    """Yield the words of items one by one, as often as they are told."""
    for item in items:
        if isinstance(item, str):
            yield item
        elif item[1] is None:
            while True:
                yield from each_of(item[2])
        else:
            for _ in range(item[1]):
                yield from each_of(item[2])


def total_of(items):
    """How many words items tell in all, None if without end."""
    if is_without_end(items):
        return None
    return sum([1 if isinstance(item, str) else item[1] * total_of(item[2]) for item in items])


def words_of(items):
    """The words in items, each once, ascending."""
    return sorted(set(_words_within(items)))


def _words_within(items):
    found = []
    for item in items:
        found.extend([item] if isinstance(item, str) else _words_within(item[2]))
    return found


def _shape_within(items, depth):
    many = 0
    counts = []
    for item in items:
        more, inner = _shape_of(item, depth)
        many = many + more
        # Items may stand within each other many times over, so the rest is not looked at.
        if many > MOST_ITEMS:
            return NO_ITEMS, []
        counts.extend(inner)
    return many, counts


def _shape_of(item, depth):
    if is_word(item):
        return 1, []
    if not is_times(item) or depth == DEEPEST:
        return NO_ITEMS, []
    many, counts = _shape_within(item[2], depth + 1)
    return 1 + many, [item[1]] + counts

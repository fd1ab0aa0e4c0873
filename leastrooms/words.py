"""What words, integers, numbers and tuples that begin with a word are, wherever they are told."""

from leastrooms.errors import BadNumber

LONGEST_WORD = 8
LARGEST_NUMBER = 10 ** 30


def is_word(thing):
    """Whether a value is a word."""
    if not isinstance(thing, str) or not 1 <= len(thing) <= LONGEST_WORD:
        return False
    return thing.isascii() and thing.isalpha() and thing.islower()


def is_integer(thing):
    """Whether a value is an integer; True and False are none."""
    return isinstance(thing, int) and not isinstance(thing, bool)


def is_between(thing, low, high):
    """Whether a value is an integer from low to high."""
    return is_integer(thing) and low <= thing <= high


def check_number(n):
    """Raise BadNumber if n is no number n."""
    if not is_between(n, 0, LARGEST_NUMBER):
        raise BadNumber(n)


def is_among(thing, words):
    """Whether a value, of any kind, is one of some words."""
    return isinstance(thing, str) and thing in words


def is_tuple_of(thing, word, many):
    """Whether a value is a tuple of so many things, this word ahead."""
    return isinstance(thing, tuple) and len(thing) == many and isinstance(thing[0], str) and thing[0] == word

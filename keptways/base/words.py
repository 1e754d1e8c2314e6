"""Words, pairs of words, and integers."""

MAX_LETTERS = 8

_LETTERS = "abcdefghijklmnopqrstuvwxyz"


def is_integer(value):
    """Whether the value is an integer of at most sixty digits."""
    return isinstance(value, int) and not isinstance(value, bool) and abs(value) < 10 ** 60


def is_word(value):
    """Whether the value is a string of one to eight letters `a` to `z`."""
    return (isinstance(value, str) and 1 <= len(value) <= MAX_LETTERS
            and all([sign in _LETTERS for sign in value]))


def is_pair(value):
    """Whether the value is a tuple of two words, the second one behind the first one."""
    return (isinstance(value, tuple) and len(value) == 2
            and is_word(value[0]) and is_word(value[1]) and value[0] < value[1])


def ascends(items):
    """Whether each of these words, or of these pairs, comes behind the one ahead."""
    return all([one < other for one, other in zip(items, items[1:])])

"""Which values are integers, and which are names, in the sense of the package."""

SMALL_LETTERS = "abcdefghijklmnopqrstuvwxyz"


def is_whole(thing):
    """Returns whether a value is an int that is not a bool."""
    return isinstance(thing, int) and not isinstance(thing, bool)


def are_whole(thing, many):
    """Returns whether a value is a tuple of so many integers."""
    return isinstance(thing, tuple) and len(thing) == many and all([is_whole(item) for item in thing])


def is_short_word(thing):
    """Returns whether a value is a text of one to eight small letters."""
    return isinstance(thing, str) and 1 <= len(thing) <= 8 and all([letter in SMALL_LETTERS for letter in thing])

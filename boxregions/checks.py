"""Which values are integers in the sense of the package."""


def is_whole(thing):
    """Returns whether a value is an int that is not a bool."""
    return isinstance(thing, int) and not isinstance(thing, bool)


def are_whole(thing, many):
    """Returns whether a value is a tuple of so many integers."""
    return isinstance(thing, tuple) and len(thing) == many and all([is_whole(item) for item in thing])

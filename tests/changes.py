"""Values that differ from a given one at one place."""


def changed(thing):
    """Yields values like one of lists, tuples and integers, but with one integer or one list or tuple changed."""
    if isinstance(thing, int):
        yield from (thing + 1, thing - 1, float(thing), str(thing), None, (thing,))
        if thing in (0, 1):
            yield bool(thing)
        return
    make = type(thing)
    yield from ({}, None, 0, set(), object(), repr(thing))
    yield list(thing) if make is tuple else tuple(thing)
    yield make([*thing, 0])
    for at, item in enumerate(thing):
        yield make([*thing[:at], *thing[at + 1:]])
        yield make([*thing[:at], item, *thing[at:]])
        for other in changed(item):
            yield make([*thing[:at], other, *thing[at + 1:]])

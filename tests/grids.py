"""Small grids of squares, gone through one by one, to compare regions with."""

from boxregions.regions import Region

BIG = 10 ** 30

NO_INTEGERS = [None, True, False, "1", b"1", 1.0, (1,), [1], {}, Region.empty(), object()]

NO_BOOLS = [None, 0, 1, -1, "True", "", b"", 1.0, (), (True,), [], [False], {}, Region.empty(), object()]

NO_REGIONS = [None, 0, True, "Region([])", (0, 0, 1, 1), [], [(0, 1, [(0, 1)])], {}, {1}, Region, object()]

NO_SQUARES = [
    None, 0, True, "ab", b"ab", {}, object(), Region.empty(), Region.of((0, 0, 1, 1)),
    (), (0,), (0, 0, 0), [0, 0], {0, 1}, (0, 0, 1, 1),
    (True, 0), (0, False), (0.0, 0), (0, 1.0), ("0", 0), (0, None), ((0, 0), 0),
]

NO_BOXES = [
    None, 0, True, "abcd", b"abcd", {}, object(), Region.empty(), Region.of((0, 0, 1, 1)),
    (), (0, 0), (0, 0, 1), (0, 0, 1, 1, 1), [0, 0, 1, 1], {0, 1, 2, 3}, [(0, 0, 1, 1)], ((0, 0, 1, 1),), ((0, 0), (1, 1)),
    (0, 0, 0, 1), (0, 0, 1, 0), (0, 0, 0, 0), (1, 0, 0, 1), (0, 1, 1, 0), (2, 2, 1, 1),
    (BIG, 0, BIG, 1), (0, BIG + 1, 1, BIG),
    (False, 0, 1, 1), (0, False, 1, 1), (0, 0, True, 1), (0, 0, 1, True),
    (0.0, 0, 1, 1), (0, 0, 1, 1.0), ("0", 0, 1, 1), (0, 0, None, 1), (0, 0, 1, (1,)),
]


def all_sets(width, height):
    """Yields every set of squares with 0 <= x < width and 0 <= y < height."""
    squares = [(x, y) for x in range(width) for y in range(height)]
    for bits in range(2 ** len(squares)):
        yield frozenset(square for at, square in enumerate(squares) if bits >> at & 1)


def region_of(squares):
    """Returns the bounded region of a set of squares."""
    return Region.of(*[(x, y, x + 1, y + 1) for x, y in squares])


def window(width, height, beyond=1):
    """Returns the squares of a grid and those around it."""
    return [(x, y) for x in range(-beyond, width + beyond) for y in range(-beyond, height + beyond)]


def squares_of_slabs(slabs):
    """Returns the set of the squares that a form with small numbers writes."""
    return {(x, y) for x1, x2, spans in slabs for x in range(x1, x2) for y1, y2 in spans for y in range(y1, y2)}


def is_plain(number):
    return type(number) is int


def is_form(slabs):
    """Returns whether a value is the form of a bounded region, as the document defines it."""
    if type(slabs) is not list or not all(type(slab) is tuple and len(slab) == 3 for slab in slabs):
        return False
    for x1, x2, spans in slabs:
        if not (is_plain(x1) and is_plain(x2) and x1 < x2 and type(spans) is list and spans):
            return False
        if not all(type(span) is tuple and len(span) == 2 and is_plain(span[0]) and is_plain(span[1]) for span in spans):
            return False
        if not all(y1 < y2 for y1, y2 in spans):
            return False
        if not all(before[1] < after[0] for before, after in zip(spans, spans[1:])):
            return False
    return all(
        before[1] < after[0] or before[1] == after[0] and before[2] != after[2]
        for before, after in zip(slabs, slabs[1:])
    )

"""Shortest ways inside a region, by steps to squares joined by an edge."""

from heapq import heappop, heappush

from boxregions.errors import InvalidSquare
from boxregions.links import box_links
from boxregions.regions import Region, check_region, is_square
from boxregions.windows import windowed_boxes


def way_length(region, start, goal):
    """Returns the least number of steps from start to goal inside a region, None if there is no way."""
    found = way(region, start, goal)
    return None if found is None else _length(found)


def way(region, start, goal):
    """Returns the squares at which a shortest way from start to goal begins, turns and ends, or None."""
    _check_ends(region, start, goal)
    stops = _stops(windowed_boxes(region, [start, goal]), start, goal)
    if stops is None:
        return None
    squares = [start]
    for (x, y), (a, b) in zip(stops, stops[1:]):
        # Two stops are in one box, or the column of the first and the row of the second are.
        squares.extend([(x, b), (a, b)])
    return _straightened(squares)


def is_way(region, start, goal, thing):
    """Returns whether a value is what way returns, or another such list."""
    _check_ends(region, start, goal)
    if not isinstance(thing, list) or not thing or not all([is_square(square) for square in thing]):
        return False
    if thing[0] != start or thing[-1] != goal:
        return False
    moves = list(zip(thing, thing[1:]))
    if not all([(x == a) != (y == b) for (x, y), (a, b) in moves]):
        return False
    boxes = [(min(x, a), min(y, b), max(x, a) + 1, max(y, b) + 1) for (x, y), (a, b) in moves]
    return _length(thing) == way_length(region, start, goal) and Region.of(*boxes).within(region)


def _check_ends(region, start, goal):
    """Raises InvalidSquare with the first one of start and goal that is not a square of a region."""
    check_region(region)
    for square in (start, goal):
        if not is_square(square) or square not in region:
            raise InvalidSquare(square)


def _distance(square, other):
    """Returns the number of steps between two squares if nothing is in the way."""
    return abs(square[0] - other[0]) + abs(square[1] - other[1])


def _length(squares):
    """Returns the number of steps along a list of squares."""
    return sum([_distance(square, other) for square, other in zip(squares, squares[1:])])


def _stops(boxes, start, goal):
    """Returns start, the squares at which a shortest way comes into a further box, and goal; None without a way."""
    links = box_links(boxes, False)
    last = _box_at(boxes, goal)
    # A tuple stands for a way: its length, the box it has come to (behind all others: goal), the square
    # at which it came there, and the number of the stop before, -1 if there is none.
    queue = [(0, _box_at(boxes, start), start, -1)]
    stops = []
    known = [[] for _ in boxes]
    while queue:
        length, at, square, before = heappop(queue)
        if at == len(boxes):
            return _traced(stops, before) + [goal]
        # Within a box all ways are free: who can come here as fast from an earlier stop need not stop here.
        if any([least + _distance(stop, square) <= length for least, stop in known[at]]):
            continue
        known[at].append((length, square))
        stops.append((square, before))
        if at == last:
            heappush(queue, (length + _distance(square, goal), len(boxes), goal, len(stops) - 1))
        for other in links[at]:
            entry = _entry(boxes[at], boxes[other], square)
            heappush(queue, (length + _distance(square, entry), other, entry, len(stops) - 1))
    return None


def _box_at(boxes, square):
    """Returns the number of the box that has a square."""
    x, y = square
    found = [at for at, (x1, y1, x2, y2) in enumerate(boxes) if x1 <= x < x2 and y1 <= y < y2]
    return found[0]


def _entry(box, other, square):
    """Returns the first square, on shortest ways from a square of a box, of a box beside it."""
    x = other[0] if box[2] == other[0] else other[2] - 1
    low = max(box[1], other[1])
    high = min(box[3], other[3]) - 1
    return (x, min(max(square[1], low), high))


def _traced(stops, last):
    """Returns the squares of a stop and of all stops before it, in the order in which they are come to."""
    squares = []
    at = last
    while at >= 0:
        square, at = stops[at]
        squares.append(square)
    return squares[::-1]


def _straightened(squares):
    """Returns the squares at which a way begins, turns and ends, without those at which it only stops."""
    kept = []
    for x, y in squares:
        if kept and kept[-1] == (x, y):
            continue
        # Each stop but the last one is come to along a row: only rows can go on.
        if len(kept) > 1 and kept[-2][1] == kept[-1][1] == y:
            kept.pop()
        kept.append((x, y))
    return kept

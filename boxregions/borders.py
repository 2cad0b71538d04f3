"""Borders of regions: their lengths, and the loops that they consist of."""

from boxregions.errors import InvalidLoops
from boxregions.forms import EXACTLY_ONE, changes_of, combined_spans, form_of_steps
from boxregions.points import turning_points
from boxregions.regions import Region, check_region, is_square

# Headings are numbered so that adding LEFT or RIGHT, modulo 4, turns them.
EAST = 0
NORTH = 1
WEST = 2
SOUTH = 3
LEFT = 1
RIGHT = 3


def border_length(region):
    """Returns the number of pairs of squares joined by an edge, one in the region and one not."""
    check_region(region)
    level = sum([2 * (x2 - x1) * len(spans) for x1, x2, spans in region.slabs])
    upright = sum([
        y2 - y1
        for _, before, after in changes_of(region.slabs) for y1, y2 in combined_spans(before, after, EXACTLY_ONE)
    ])
    return level + upright


def loops(region):
    """Returns the border of a region as an ascending list of loops, each with the region on its left side."""
    check_region(region)
    points = turning_points(region)
    arrows = _arrows(points)
    # One turns right where only one of the four squares is missing, and left elsewhere.
    turns = {(x, y): RIGHT if squares.count(True) == 3 else LEFT for x, y, squares in points}
    walked = set()
    found = []
    # In ascending order the first point of each loop that one comes to is its smallest one.
    for start in sorted(list(arrows)):
        loop = []
        x, y, heading = start
        while (x, y, heading) not in walked:
            walked.add((x, y, heading))
            loop.append((x, y))
            x, y = arrows[(x, y, heading)]
            heading = (heading + turns[(x, y)]) % 4
        if loop:
            found.append(loop)
    return found


def from_loops(loops):
    """Returns the region with these loops, in any order and each beginning at any of its points."""
    if not isinstance(loops, list) or not all([_is_walk(loop) for loop in loops]):
        raise InvalidLoops(loops)
    wanted = sorted([_from_smallest(loop) for loop in loops])
    inside = _between(wanted)
    for region in (inside, ~inside):
        if _has_loops(region, wanted):
            return region
    raise InvalidLoops(loops)


def loop_area(loop):
    """Returns the area inside a loop, below 0 if it has it on its right side."""
    if not _is_walk(loop):
        raise InvalidLoops(loop)
    return sum([x * b - y * a for (x, y), (a, b) in _neighbours(loop)]) // 2


def _neighbours(loop):
    """Returns a list of the pairs of neighbouring points of a loop."""
    return list(zip(loop, loop[1:] + loop[:1]))


def _arrows(points):
    """Returns a dict from (x, y, heading) to the point to which the border goes straight on from (x, y).

    The points are those of turning_points.
    """
    arrows = {}
    for (x, y, squares), (other_x, other_y, _) in zip(points, points[1:]):
        if x == other_x and squares[1] != squares[3]:
            if squares[1]:
                arrows[(x, y, NORTH)] = (x, other_y)
            else:
                arrows[(x, other_y, SOUTH)] = (x, y)
    by_rows = sorted(points, key=lambda point: (point[1], point[0]))
    for (x, y, squares), (other_x, other_y, _) in zip(by_rows, by_rows[1:]):
        if y == other_y and squares[2] != squares[3]:
            if squares[3]:
                arrows[(x, y, EAST)] = (other_x, y)
            else:
                arrows[(other_x, y, WEST)] = (x, y)
    return arrows


def _is_walk(thing):
    """Returns whether a value is a list of points in which neighbours have an equal coordinate."""
    if not isinstance(thing, list) or not all([is_square(point) for point in thing]):
        return False
    return all([x == a or y == b for (x, y), (a, b) in _neighbours(thing)])


def _from_smallest(loop):
    """Returns a loop from its smallest point on, of plain integers."""
    points = [(int(x), int(y)) for x, y in loop]
    if not points:
        return []
    at = points.index(min(points))
    return points[at:] + points[:at]


def _between(walks):
    """Returns the region of the squares with an odd number of upright pieces of walks on the left."""
    upright = [
        (x, min(y, b), max(y, b)) for walk in walks for (x, y), (a, b) in _neighbours(walk) if x == a and y != b
    ]
    steps = {}
    spans = ()
    for x, low, high in sorted(upright):
        spans = combined_spans(spans, ((low, high),), EXACTLY_ONE)
        steps[x] = spans
    # A walk that returns to its beginning goes up and down equally often: the last step has no spans.
    return Region(form_of_steps(list(steps.items())), True)


def _has_loops(region, wanted):
    """Returns whether the loops of a region are the wanted ones."""
    return loops(region) == wanted

"""The least growth at which regions meet, become one part and have no holes."""

from boxregions.counting import side
from boxregions.errors import InvalidSquare
from boxregions.growing import around
from boxregions.parts import holes
from boxregions.regions import check_region, check_square
from boxregions.windows import windowed_boxes


def reach(one, other):
    """Returns the least distance by which one region must grow to meet another, None if one of them is empty."""
    check_region(one)
    check_region(other)
    if not one or not other:
        return None
    if one & other:
        return 0
    # Of an unbounded region only what is in its window can be next to a region that it does not meet.
    near = windowed_boxes(one, [])
    far = windowed_boxes(other, [])
    return min([_gap(box, target) for box in near for target in far])


def joining(region):
    """Returns the least distance by which a region must grow to be one part by edges or corners, or none."""
    check_region(region)
    # Both sides of a gap grow, and then they need not overlap.
    return _greatest_gap(windowed_boxes(region, [])) // 2


def closing(region):
    """Returns the least distance by which a region must grow to have no hole."""
    check_region(region)
    distance = 0
    depth = _greatest_depth(region)
    while depth:
        # Until the deepest hole is closed there is one; by then there may be holes that growing made.
        distance = distance + depth
        depth = _greatest_depth(region + around(distance))
    return distance


def hole_closing(region, square):
    """Returns the least distance by which a region must grow to cover its hole that has a square."""
    check_region(region)
    check_square(square)
    for hole in holes(region):
        if square in hole:
            return _depth(hole)
    raise InvalidSquare(square)


def _gap(box, other):
    """Returns the least distance by which a box must grow to meet another one."""
    x1, y1, x2, y2 = box
    a1, b1, a2, b2 = other
    return max(0, a1 - x2 + 1, x1 - a2 + 1, b1 - y2 + 1, y1 - b2 + 1)


def _greatest_gap(boxes):
    """Returns the greatest gap on ways from box to box that link all of them over gaps as small as possible."""
    gaps = {other: _gap(boxes[0], boxes[other]) for other in range(1, len(boxes))}
    greatest = 0
    while gaps:
        gap, at = min([(gaps[other], other) for other in gaps])
        greatest = max(greatest, gap)
        del gaps[at]
        for other in list(gaps):
            gaps[other] = min(gaps[other], _gap(boxes[at], boxes[other]))
    return greatest


def _greatest_depth(region):
    """Returns the least distance by which a region must grow to cover all holes that it has now."""
    return max([_depth(hole) for hole in holes(region)], default=0)


def _depth(hole):
    """Returns the distance by which what is around a hole must grow to cover it."""
    # A square is covered last if it has the greatest square box around it that is inside the hole.
    return (side(hole) + 1) // 2

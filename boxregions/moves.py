"""Regions that are shifted, mirrored, turned and scaled."""

from boxregions.checks import is_whole
from boxregions.errors import InvalidNumber
from boxregions.regions import Region, check_region


def shifted(region, by_x, by_y):
    """Returns the region with by_x and by_y added to the coordinates of each square."""
    check_region(region)
    for number in (by_x, by_y):
        if not is_whole(number):
            raise InvalidNumber(number)
    side = _bounded_side(region)
    boxes = [(x1 + by_x, y1 + by_y, x2 + by_x, y2 + by_y) for x1, y1, x2, y2 in side.boxes()]
    return _same_side(region, boxes)


def mirrored(region):
    """Returns the region with each square (x, y) taken to (-x - 1, y)."""
    check_region(region)
    side = _bounded_side(region)
    boxes = [(-x2, y1, -x1, y2) for x1, y1, x2, y2 in side.boxes()]
    return _same_side(region, boxes)


def turned(region):
    """Returns the region with each square (x, y) taken to (-y - 1, x)."""
    check_region(region)
    side = _bounded_side(region)
    boxes = [(-y2, x1, -y1, x2) for x1, y1, x2, y2 in side.boxes()]
    return _same_side(region, boxes)


def scaled(region, factor):
    """Returns the region with each square replaced by a box of factor times factor squares."""
    check_region(region)
    if not is_whole(factor) or factor < 1:
        raise InvalidNumber(factor)
    side = _bounded_side(region)
    boxes = [(factor * x1, factor * y1, factor * x2, factor * y2) for x1, y1, x2, y2 in side.boxes()]
    return _same_side(region, boxes)


def _bounded_side(region):
    """Returns the one of the region and its complement that is bounded."""
    return region if region.is_bounded else ~region


def _same_side(region, boxes):
    """Returns the union of boxes, or its complement for an unbounded region."""
    side = Region.of(*boxes)
    return side if region.is_bounded else ~side

"""Regions that are opened and closed by a box, and boxes around a square."""

from boxregions.checks import is_whole
from boxregions.errors import InvalidNumber
from boxregions.regions import check_region


def opened(region, box):
    """Returns the region shrunk by a box and then grown by it."""
    check_region(region)
    return (region // box) + box


def closed(region, box):
    """Returns the region grown by a box and then shrunk by it."""
    check_region(region)
    return (region + box) // box


def around(distance):
    """Returns the box of all squares whose coordinates are at most so far from 0."""
    if not is_whole(distance) or distance < 0:
        raise InvalidNumber(distance)
    return (-distance, -distance, distance + 1, distance + 1)

"""Parts and holes of regions, and the corners that tell their numbers."""

from boxregions.errors import InvalidNumber
from boxregions.links import box_links
from boxregions.points import turning_points
from boxregions.regions import Region, check_region, check_square
from boxregions.windows import window_around


def parts(region, *, corners=False):
    """Returns the parts of a region: the bounded ones by their first squares, then the unbounded one."""
    check_region(region)
    _check_corners(corners)
    if region.is_bounded:
        return _bounded_parts(region, corners)
    missing = ~region
    if not missing:
        return [Region.everything()]
    window = Region.of(window_around(missing, []))
    pieces = _bounded_parts(window - missing, corners)
    # The edge of the window is in one piece, and that is the first one; all beyond the window belongs to it.
    return pieces[1:] + [pieces[0] | ~window]


def holes(region, *, corners=False):
    """Returns the holes of a region by their first squares."""
    check_region(region)
    _check_corners(corners)
    return [part for part in parts(~region, corners=not corners) if part.is_bounded]


def part_of(region, square, *, corners=False):
    """Returns the part of a region that has a square, None if the region does not have it."""
    check_region(region)
    check_square(square)
    _check_corners(corners)
    for part in parts(region, corners=corners):
        if square in part:
            return part
    return None


def corner_counts(region):
    """Returns a tuple of the numbers of convex, reflex and touching corners of a region."""
    check_region(region)
    many = [squares.count(True) for _, _, squares in turning_points(region)]
    return (many.count(1), many.count(3), many.count(2))


def _check_corners(corners):
    """Raises InvalidNumber for a value that is not a bool."""
    if not isinstance(corners, bool):
        raise InvalidNumber(corners)


def _bounded_parts(region, corners):
    """Returns the parts of a bounded region by their first squares."""
    boxes = list(region.boxes())
    links = box_links(boxes, corners)
    seen = set()
    found = []
    # Boxes come in the order of their first squares: so do the parts that they begin.
    for start in range(len(boxes)):
        if start in seen:
            continue
        seen.add(start)
        waiting = [start]
        group = []
        while waiting:
            at = waiting.pop()
            group.append(boxes[at])
            for other in links[at]:
                if other not in seen:
                    seen.add(other)
                    waiting.append(other)
        found.append(Region.of(*group))
    return found

"""Windows: boxes beyond which an unbounded region is all the same."""

from boxregions.regions import Region


def window_around(region, squares):
    """Returns a box that holds a bounded region and some squares, and on each side one square more."""
    boxes = [(x, y, x + 1, y + 1) for x, y in squares]
    held = region | Region.of(*boxes)
    x1, y1, x2, y2 = held.frame or (0, 0, 1, 1)
    return (x1 - 1, y1 - 1, x2 + 1, y2 + 1)


def windowed_boxes(region, squares):
    """Returns the boxes of a bounded region, or of what an unbounded one has in the window around all it lacks.

    The window holds the given squares, too. The squares at its edge are in the
    region: who goes beyond the window can as well go along its edge.
    """
    seen = region
    if not region.is_bounded:
        seen = region & Region.of(window_around(~region, squares))
    return list(seen.boxes())

"""The points at which the border of a region turns."""

from boxregions.forms import changes_of


def turning_points(region):
    """Returns, ascending, tuples (x, y, squares) for the points at which the border of a region turns.

    squares is a tuple of truth values: whether the region has the square at
    the point left below, left above, right below, right above.
    """
    turning = []
    for x, before, after in changes_of(region.slabs):
        for y, inside in _squares_along(before, after):
            # The slabs of an unbounded region are those of its complement.
            squares = tuple([bit == region.is_bounded for bit in inside])
            if _turns(squares):
                turning.append((x, y, squares))
    return turning


def _squares_along(before, after):
    """Returns, ascending, pairs (y, squares) for the ends of the spans left and right of an upright line."""
    left_ends = {end for span in before for end in span}
    right_ends = {end for span in after for end in span}
    left = False
    right = False
    found = []
    for y in sorted({end for spans in (before, after) for span in spans for end in span}):
        # At each end of a span one goes into it or out of it.
        left_above = left != (y in left_ends)
        right_above = right != (y in right_ends)
        found.append((y, (left, left_above, right, right_above)))
        left = left_above
        right = right_above
    return found


def _turns(squares):
    """Returns whether the border turns at a point with four such squares."""
    many = squares.count(True)
    return many in (1, 3) or (many == 2 and squares[0] == squares[3])

"""Shadows of bounded regions on the axes, and regions that have given shadows."""

from boxregions.checks import are_whole
from boxregions.errors import InvalidAxis, InvalidSpans
from boxregions.forms import EITHER, combined_spans
from boxregions.regions import Region, check_bounded


def shadow(region, axis):
    """Returns the list of spans of the x, or the y, of all squares of a bounded region."""
    check_bounded(region)
    if not isinstance(axis, str) or axis not in ("x", "y"):
        raise InvalidAxis(axis)
    spans = ()
    for x1, y1, x2, y2 in region.boxes():
        spans = combined_spans(spans, ((x1, x2) if axis == "x" else (y1, y2),), EITHER)
    return list(spans)


def product(xs, ys):
    """Returns the region of all squares with x in one of the spans xs and y in one of the spans ys."""
    _check_spans(xs, ys)
    spans = tuple([(int(y1), int(y2)) for y1, y2 in ys])
    slabs = [(int(x1), int(x2), spans) for x1, x2 in xs] if spans else []
    return Region(tuple(slabs), True)


def least_count(xs, ys):
    """Returns the least number of squares of a region with the shadows xs and ys, None if there is none."""
    _check_spans(xs, ys)
    if bool(xs) != bool(ys):
        return None
    # Each column and each row needs a square; one square can serve a column and a row.
    return max(_length(xs), _length(ys))


def _check_spans(xs, ys):
    """Raises InvalidSpans with the first one of two values that is not a valid list of spans."""
    for spans in (xs, ys):
        if not _are_spans(spans):
            raise InvalidSpans(spans)


def _are_spans(thing):
    """Returns whether a value is a list of spans each of which begins beyond the end of the one before it."""
    if not isinstance(thing, list) or not all([are_whole(span, 2) and span[0] < span[1] for span in thing]):
        return False
    return all([before[1] < after[0] for before, after in zip(thing, thing[1:])])


def _length(spans):
    """Returns how many integers are in one of some spans."""
    return sum([high - low for low, high in spans])

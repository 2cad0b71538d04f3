"""Numbers of squares, places in the order of squares, and greatest boxes inside bounded regions."""

from boxregions.checks import is_whole
from boxregions.errors import InvalidNumber
from boxregions.forms import BOTH, combined_spans, spans_at, steps_of
from boxregions.regions import check_bounded, check_square


def count(region):
    """Returns the number of squares of a bounded region."""
    check_bounded(region)
    return sum([_area(box) for box in region.boxes()])


def nth(region, number):
    """Returns the square of a bounded region before which so many of its squares come."""
    check_bounded(region)
    if not is_whole(number) or not 0 <= number < count(region):
        raise InvalidNumber(number)
    rest = number
    for x1, x2, spans in region.slabs:
        height = _height(spans)
        many = (x2 - x1) * height
        if rest < many:
            return (x1 + rest // height, _nth_in_column(spans, rest % height))
        rest = rest - many


def rank(region, square):
    """Returns how many squares of a bounded region come before a square."""
    check_bounded(region)
    check_square(square)
    x, y = square
    slabs = region.slabs
    before = sum([(min(x, x2) - x1) * _height(spans) for x1, x2, spans in slabs if x1 < x])
    return before + sum([min(y, y2) - y1 for y1, y2 in spans_at(slabs, x) if y1 < y])


def greatest_boxes(region):
    """Yields, ascending, the boxes inside a bounded region that are inside no greater one."""
    check_bounded(region)
    for box in sorted(_greatest(region.slabs)):
        yield box


def widest(region):
    """Returns the first of the greatest boxes with the most squares, None for the empty region."""
    boxes = list(greatest_boxes(region))
    return max(boxes, key=_area, default=None)


def side(region):
    """Returns the side of the greatest box inside a bounded region that is as wide as high, 0 if there is none."""
    return max([min(x2 - x1, y2 - y1) for x1, y1, x2, y2 in greatest_boxes(region)], default=0)


def _area(box):
    """Returns the number of squares of a box."""
    x1, y1, x2, y2 = box
    return (x2 - x1) * (y2 - y1)


def _height(spans):
    """Returns the number of squares of a column with these spans."""
    return sum([y2 - y1 for y1, y2 in spans])


def _nth_in_column(spans, number):
    """Returns the y in spans below which so many others are."""
    rest = number
    for y1, y2 in spans:
        if rest < y2 - y1:
            return y1 + rest
        rest = rest - (y2 - y1)


def _greatest(slabs):
    """Returns the greatest boxes inside a form."""
    columns = list(steps_of(slabs).items())
    found = []
    for first in range(len(columns)):
        before = columns[first - 1][1] if first else ()
        found.extend(_greatest_from(columns[first:], before))
    return found


def _greatest_from(columns, before):
    """Returns the greatest boxes that begin with the first of the columns (x, spans), behind a column before."""
    x1, spans = columns[0]
    found = []
    for (_, here), (x2, after) in zip(columns, columns[1:]):
        spans = combined_spans(spans, here, BOTH)
        if not spans:
            break
        # These reach as far up and down as they can; a longer box to the left or the right may hold one.
        for y1, y2 in spans:
            if not _is_inside(y1, y2, before) and not _is_inside(y1, y2, after):
                found.append((x1, y1, x2, y2))
    return found


def _is_inside(y1, y2, spans):
    """Returns whether all y with y1 <= y < y2 are in one of the spans."""
    return any([low <= y1 and y2 <= high for low, high in spans])

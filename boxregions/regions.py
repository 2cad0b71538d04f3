"""Squares, boxes and regions."""

from boxregions.checks import are_whole
from boxregions.errors import InvalidBox, InvalidRegion, InvalidSquare, Unbounded
from boxregions.forms import (
    BOTH, EITHER, EXACTLY_ONE, ONLY_FIRST, combined, form_of_boxes, frame_of, grown, has_square, reflected, shrunk,
)


def is_square(thing):
    """Returns whether a value is a square: a tuple (x, y) of integers."""
    return are_whole(thing, 2)


def is_box(thing):
    """Returns whether a value is a box: a tuple (x1, y1, x2, y2) of integers with x1 < x2 and y1 < y2."""
    return are_whole(thing, 4) and thing[0] < thing[2] and thing[1] < thing[3]


class Region:
    """A set of squares: those in finitely many boxes, or all others.

    Objects are made by of, empty, everything, the operators and functions of
    the package; what is passed to the class itself is not checked.
    """

    def __init__(self, slabs, is_bounded):
        # An unbounded region keeps the form of its complement.
        self._slabs = slabs
        self._is_bounded = is_bounded

    @classmethod
    def of(cls, *boxes):
        """Returns the union of boxes."""
        for box in boxes:
            if not is_box(box):
                raise InvalidBox(box)
        return cls(form_of_boxes(boxes), True)

    @staticmethod
    def empty():
        """Returns the region without squares."""
        return Region((), True)

    @staticmethod
    def everything():
        """Returns the region of all squares."""
        return Region((), False)

    @property
    def is_bounded(self):
        """Whether the region is the union of finitely many boxes."""
        return self._is_bounded

    @property
    def slabs(self):
        """The form of the region, or that of its complement if the region is unbounded."""
        return [(x1, x2, list(spans)) for x1, x2, spans in self._slabs]

    @property
    def frame(self):
        """The smallest box around a bounded region, None around the empty one."""
        if not self._is_bounded:
            raise Unbounded(self)
        return frame_of(self._slabs)

    def _combined(self, other, kept):
        """Returns the region of the squares that kept keeps (forms.py tells what it is)."""
        check_region(other)
        # Complements are kept for unbounded regions: their bits, and the outcome's, are turned around.
        turn = (0 if self._is_bounded else 2) + (0 if other._is_bounded else 1)
        kept_forms = tuple([kept[at ^ turn] != kept[turn] for at in range(4)])
        return Region(combined(self._slabs, other._slabs, kept_forms), not kept[turn])

    def __or__(self, other):
        return self._combined(other, EITHER)

    def __and__(self, other):
        return self._combined(other, BOTH)

    def __sub__(self, other):
        return self._combined(other, ONLY_FIRST)

    def __xor__(self, other):
        return self._combined(other, EXACTLY_ONE)

    def __add__(self, box):
        if not is_box(box):
            raise InvalidBox(box)
        if self._is_bounded:
            return Region(grown(self._slabs, box), True)
        # What stays outside is what no square of the region comes to: the complement, shrunk the other way.
        return Region(shrunk(self._slabs, reflected(box)), False)

    def __floordiv__(self, box):
        if not is_box(box):
            raise InvalidBox(box)
        if self._is_bounded:
            return Region(shrunk(self._slabs, box), True)
        return Region(grown(self._slabs, reflected(box)), False)

    # Python comes to these six only if what stands on the left is no region.

    def __ror__(self, other):
        raise InvalidRegion(other)

    def __rand__(self, other):
        raise InvalidRegion(other)

    def __rsub__(self, other):
        raise InvalidRegion(other)

    def __rxor__(self, other):
        raise InvalidRegion(other)

    def __radd__(self, other):
        raise InvalidRegion(other)

    def __rfloordiv__(self, other):
        raise InvalidRegion(other)

    def __invert__(self):
        return Region(self._slabs, not self._is_bounded)

    def __contains__(self, square):
        check_square(square)
        x, y = square
        return has_square(self._slabs, x, y) == self._is_bounded

    def __bool__(self):
        return bool(self._slabs) or not self._is_bounded

    def within(self, other):
        """Returns whether all squares of the region are in the other one."""
        return not bool(self - other)

    def boxes(self):
        """Yields the boxes of the form, slab by slab and span by span."""
        if not self._is_bounded:
            raise Unbounded(self)
        for x1, x2, spans in self._slabs:
            for y1, y2 in spans:
                yield (x1, y1, x2, y2)

    def __eq__(self, other):
        return isinstance(other, Region) and self._is_bounded == other._is_bounded and self._slabs == other._slabs

    def __repr__(self):
        if self._is_bounded:
            return f"Region({self.slabs!r})"
        return f"~Region({self.slabs!r})"


def check_region(thing):
    """Raises InvalidRegion for a value that is not a region."""
    if not isinstance(thing, Region):
        raise InvalidRegion(thing)


def check_bounded(thing):
    """Raises InvalidRegion for a value that is not a region, Unbounded for an unbounded region."""
    check_region(thing)
    if not thing.is_bounded:
        raise Unbounded(thing)


def check_square(thing):
    """Raises InvalidSquare for a value that is not a square."""
    if not is_square(thing):
        raise InvalidSquare(thing)


def separating(one, other):
    """Returns a square that only one of two regions has, or None if they are equal."""
    check_region(one)
    check_region(other)
    apart = one ^ other
    slabs = apart.slabs
    if not slabs:
        return None if apart.is_bounded else (0, 0)
    x, _, spans = slabs[0]
    y = spans[0][0]
    # The form of an unbounded region tells what it lacks: it has all columns before the first slab.
    return (x, y) if apart.is_bounded else (x - 1, y)

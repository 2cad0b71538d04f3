"""Chords of bounded regions, and the boxes into which a region is cut along chords."""

from boxregions.forms import changes_of
from boxregions.regions import Region


def level_chords(region):
    """Returns an ascending list of the level chords of a bounded region."""
    # They are the upright ones of the region with x and y exchanged.
    boxes = [(y1, x1, y2, x2) for x1, y1, x2, y2 in region.boxes()]
    return sorted([((x1, y), (x2, y)) for (y, x1), (_, x2) in upright_chords(Region.of(*boxes))])


def upright_chords(region):
    """Returns an ascending list of the upright chords of a bounded region."""
    chords = []
    for x, before, after in changes_of(region.slabs):
        for low, high in before:
            for y1, y2 in after:
                # Where both spans begin or end there are two squares at the point, else three.
                if max(low, y1) < min(high, y2) and low != y1 and high != y2:
                    chords.append(((x, max(low, y1)), (x, min(high, y2))))
    return chords


def cut_boxes(region, level):
    """Returns the boxes into which level chords cut a bounded region, with upright lines where they must be.

    At a reflex point that no chord of level ends at, the spans on the left and
    on the right differ: boxes end there, as if an upright line went from it to
    the next chord or the border. One line serves two such points if it is an
    upright chord that no chord of level meets.
    """
    begun = {}
    end = None
    found = []
    for x1, x2, spans in region.slabs:
        heights = [y for (first, y), (last, _) in level if first <= x1 < last]
        going = {}
        for piece in _cut_spans(spans, heights):
            going[piece] = begun[piece] if x1 == end and piece in begun else x1
        found.extend(_ended(begun, going, end))
        begun = going
        end = x2
    return found + _ended(begun, {}, end)


def _cut_spans(spans, heights):
    """Returns the pieces into which spans are cut at some heights."""
    pieces = []
    for low, high in spans:
        marks = [low] + sorted([y for y in heights if low < y < high]) + [high]
        pieces.extend(list(zip(marks, marks[1:])))
    return pieces


def _ended(begun, going, end):
    """Returns the boxes that end at x = end: the pieces that were begun and do not go on."""
    return [(x, low, end, high) for (low, high), x in begun.items() if going.get((low, high)) != x]

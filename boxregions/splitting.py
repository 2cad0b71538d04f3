"""The fewest boxes without common squares that make up a bounded region, and why there are no fewer."""

from boxregions.cutting import cut_boxes, level_chords, upright_chords
from boxregions.counting import count
from boxregions.matching import greatest_choice, greatest_matching
from boxregions.parts import corner_counts
from boxregions.regions import Region, check_bounded, is_box, is_square


def chords(region):
    """Returns a tuple of the ascending lists of the level and the upright chords of a bounded region."""
    check_bounded(region)
    return (level_chords(region), upright_chords(region))


def fewest(region):
    """Returns the least number of boxes without common squares that make up a bounded region."""
    level, upright = chords(region)
    owners = greatest_matching(_links(level, upright), len(upright))
    # Of each pair one chord is left out: the owners without a pair are those that are None.
    free = len(level) + owners.count(None)
    convex, reflex, touching = corner_counts(region)
    return reflex - free + (convex - reflex + 2 * touching) // 4


def split(region):
    """Returns a tuple of ascending lists: the fewest boxes, free chords, and pairs of chords that meet."""
    level, upright = chords(region)
    links = _links(level, upright)
    owners = greatest_matching(links, len(upright))
    chosen, others = greatest_choice(links, owners)
    free = [level[at] for at in chosen]
    boxes = cut_boxes(region, free)
    pairs = [(level[at], chord) for at, chord in zip(owners, upright) if at is not None]
    return (sorted(boxes), sorted(free + [upright[at] for at in others]), sorted(pairs))


def is_split(region, thing):
    """Returns whether a value is what split returns, or another such tuple, the lists in any order."""
    check_bounded(region)
    if not isinstance(thing, tuple) or len(thing) != 3 or not all([isinstance(item, list) for item in thing]):
        return False
    boxes, free, pairs = thing
    level, upright = chords(region)
    if len(free) + len(pairs) != len(level) + len(upright):
        return False
    return _are_free(free, level, upright) and _are_pairs(pairs, level, upright) and _make_up(boxes, region)


def _links(level, upright):
    """Returns, for each level chord, a list of the numbers of the upright ones that meet it."""
    return [[at for at, other in enumerate(upright) if _meet(chord, other)] for chord in level]


def _meet(level, upright):
    """Returns whether a level and an upright chord have a point in common."""
    (x1, y), (x2, _) = level
    (x, y1), (_, y2) = upright
    return x1 <= x <= x2 and y1 <= y <= y2


def _is_line(thing):
    """Returns whether a value is a tuple of two points."""
    return isinstance(thing, tuple) and len(thing) == 2 and all([is_square(point) for point in thing])


def _are_free(free, level, upright):
    """Returns whether the values of a list are chords no two of which meet, none of them twice."""
    if not all([_is_line(thing) and (thing in level or thing in upright) for thing in free]):
        return False
    if len(set(free)) != len(free):
        return False
    # Two level ones never meet, nor do two upright ones: at a point of both there would be four squares.
    across = [thing for thing in free if thing in level]
    along = [thing for thing in free if thing not in level]
    return not any([_meet(one, other) for one in across for other in along])


def _are_pairs(pairs, level, upright):
    """Returns whether the values of a list are pairs of chords that meet, no chord in two of them."""
    for pair in pairs:
        if not isinstance(pair, tuple) or len(pair) != 2 or not all([_is_line(thing) for thing in pair]):
            return False
        if pair[0] not in level or pair[1] not in upright or not _meet(pair[0], pair[1]):
            return False
    paired = [chord for pair in pairs for chord in pair]
    return len(set(paired)) == len(paired)


def _make_up(boxes, region):
    """Returns whether the values of a list are the fewest boxes without common squares that make up a region."""
    if not all([is_box(box) for box in boxes]) or len(boxes) != fewest(region):
        return False
    areas = [(x2 - x1) * (y2 - y1) for x1, y1, x2, y2 in boxes]
    # Boxes with common squares would have more squares together than their union has.
    return Region.of(*boxes) == region and sum(areas) == count(region)

"""Answers for small regions, found by going through all squares one by one.

A region is told by a pair (squares, flipped): a set of squares, or, where
flipped is true, all squares that are not in the set.
"""

import itertools
import random

from boxregions.regions import Region
from tests.grids import BIG, all_sets, region_of, squares_of_slabs

EDGES = [(1, 0), (0, 1), (-1, 0), (0, -1)]
CORNERS = EDGES + [(1, 1), (1, -1), (-1, 1), (-1, -1)]

# Where the lines of a small grid lie if it is stretched; the steps are of all lengths.
STRETCHED_X = [-3 * BIG, -BIG - 5, -BIG, -2, 0, 10 ** 29, BIG, BIG + 1, BIG + 4, 2 * BIG, 5 * BIG, 5 * BIG + 1, 9 * BIG]
STRETCHED_Y = [-BIG, -7, -6, 3, 10 ** 30 - 1, 10 ** 30, 10 ** 30 + 8, 4 * BIG, 7 * BIG, 7 * BIG + 2, 8 * BIG, 9 * BIG, 10 * BIG]


def region_of_pair(squares, flipped):
    """Returns the region that a pair tells."""
    return ~region_of(squares) if flipped else region_of(squares)


def pair_of(region):
    """Returns the pair that tells a region with small numbers."""
    return squares_of_slabs(region.slabs), not region.is_bounded


def small_pairs(width, height):
    """Yields all pairs with squares of a grid."""
    for squares in all_sets(width, height):
        yield squares, False
        yield squares, True


def drawn(text):
    """Returns the set of the squares that are drawn as # in rows, the last row being y = 0."""
    rows = [row.strip() for row in text.strip().split("\n")]
    return {(x, y) for y, row in enumerate(reversed(rows)) for x, sign in enumerate(row) if sign == "#"}


NESTED = drawn("""
    ###########
    #.........#
    #.#######.#
    #.#.....#.#
    #.#..#..#.#
    #.#.#.#.#.#
    #.#..#..#.#
    #.#.....#.#
    #.#######.#
    #.........#
    ###########
""")
CHESS = {(x, y) for x in range(5) for y in range(5) if (x + y) % 2 == 0}
COMB = drawn("""
    #.#.#.#.
    #.#.#.#.
    ########
    .#.#.#.#
    .#.#.#.#
""")
STEPS = drawn("""
    ##......
    ###..#..
    .###.##.
    ..####.#
    #..##.##
""")
CHAIN = drawn("""
    .#.#.#.
    #.#.#.#
    .#.#.#.
""")
SIDE_BY_SIDE = drawn("""
    #.##..
    ##.#.#
    #.#.#.
    .##..#
""")


def larger_pairs():
    """Returns pairs with squares of grids of up to eleven by eleven."""
    chance = random.Random(11)
    sets = [set(), NESTED, CHESS, COMB, STEPS, CHAIN, SIDE_BY_SIDE, {(x, y) for x in range(6) for y in range(4)}]
    for many in range(40):
        size = 4 + many % 4
        share = (0.3, 0.5, 0.65, 0.85)[many // 10]
        sets.append({square for square in itertools.product(range(size), repeat=2) if chance.random() < share})
    return [(squares, flipped) for squares in sets for flipped in (False, True)]


def around_squares(squares, beyond=1):
    """Returns the squares of a window that reaches beyond all squares."""
    xs, ys = zip(*squares) if squares else ([0], [0])
    return [
        (x, y) for x in range(min(xs) - beyond, max(xs) + beyond + 1) for y in range(min(ys) - beyond, max(ys) + beyond + 1)
    ]


def offsets(box):
    x1, y1, x2, y2 = box
    return [(x, y) for x in range(x1, x2) for y in range(y1, y2)]


def grown(squares, flipped, box):
    """Returns the pair of all sums of a square of the region and one of the box."""
    places = {(x + u, y + v) for x, y in squares for u, v in offsets(box)}
    if flipped:
        return {(x, y) for x, y in places if all((x - u, y - v) in squares for u, v in offsets(box))}, True
    return places, False


def shrunk(squares, flipped, box):
    """Returns the pair of all squares from which the whole box reaches squares of the region."""
    places = {(x - u, y - v) for x, y in squares for u, v in offsets(box)}
    if flipped:
        return places, True
    return {(x, y) for x, y in places if all((x + u, y + v) in squares for u, v in offsets(box))}, False


def boxes_inside(squares):
    """Returns all boxes all of whose squares are in a set."""
    ends = range(max([0] + [max(square) for square in squares]) + 2)
    boxes = itertools.product(ends, repeat=4)
    return [box for box in boxes if box[0] < box[2] and box[1] < box[3] and all(at in squares for at in offsets(box))]


def holds(box, other):
    """Returns whether a box is inside another one."""
    return other[0] <= box[0] and other[1] <= box[1] and box[2] <= other[2] and box[3] <= other[3]


def greatest_boxes(squares):
    boxes = boxes_inside(squares)
    return sorted(box for box in boxes if not any(holds(box, other) and box != other for other in boxes))


def parts(squares, flipped, corners):
    """Returns the pairs of the parts, the bounded ones in the order of their first squares, then the unbounded one."""
    window = around_squares(squares)
    left = {square for square in window if (square in squares) != flipped}
    found = []
    for square in window:
        if square in left:
            left.remove(square)
            group = [square]
            for x, y in group:
                for u, v in CORNERS if corners else EDGES:
                    if (x + u, y + v) in left:
                        left.remove((x + u, y + v))
                        group.append((x + u, y + v))
            found.append(set(group))
    far = [group for group in found if flipped and window[0] in group]
    near = sorted([group for group in found if group not in far], key=min)
    return [(group, False) for group in near] + [(set(window) - group, True) for group in far]


def holes(squares, flipped, corners):
    return [pair for pair in parts(squares, not flipped, not corners) if not pair[1]]


def corner_counts(squares, flipped):
    convex = reflex = touching = 0
    for x, y in around_squares(squares):
        four = [((x + u, y + v) in squares) != flipped for u, v in [(-1, -1), (-1, 0), (0, -1), (0, 0)]]
        convex += sum(four) == 1
        reflex += sum(four) == 3
        touching += four in ([True, False, False, True], [False, True, True, False])
    return convex, reflex, touching


def border_length(squares):
    """Returns the border length, the same for both pairs with these squares."""
    return sum((x + u, y + v) not in squares for x, y in squares for u, v in EDGES)


def steps_of_border(squares, flipped):
    """Returns a dict from each point to the headings in which one may walk on from it by 1."""
    steps = {}
    for x, y in around_squares(squares):
        if ((x, y) in squares) != flipped:
            for start, (u, v), beside in [
                ((x, y), (1, 0), (x, y - 1)), ((x + 1, y), (0, 1), (x + 1, y)),
                ((x + 1, y + 1), (-1, 0), (x, y + 1)), ((x, y + 1), (0, -1), (x - 1, y)),
            ]:
                if (beside in squares) == flipped:
                    steps.setdefault(start, []).append((u, v))
    return steps


def loops(squares, flipped):
    """Returns the loops, found by steps of length 1."""
    steps = steps_of_border(squares, flipped)
    left = {(point, heading) for point, headings in steps.items() for heading in headings}
    found = []
    while left:
        at, heading = min(left)
        walked = []
        while (at, heading) in left:
            left.remove((at, heading))
            walked.append((at, heading))
            u, v = heading
            at = (at[0] + u, at[1] + v)
            heading = next(turn for turn in [(-v, u), (u, v), (v, -u)] if turn in steps[at])
        found.append([point for k, (point, heading) in enumerate(walked) if heading != walked[k - 1][1]])
    return sorted(from_smallest(loop) for loop in found)


def from_smallest(loop):
    at = loop.index(min(loop))
    return loop[at:] + loop[:at]


def stretch_square(square):
    x, y = square
    return STRETCHED_X[x], STRETCHED_Y[y], STRETCHED_X[x + 1], STRETCHED_Y[y + 1]


def stretch_box(box):
    x1, y1, x2, y2 = box
    return STRETCHED_X[x1], STRETCHED_Y[y1], STRETCHED_X[x2], STRETCHED_Y[y2]


def stretch_point(point):
    return STRETCHED_X[point[0]], STRETCHED_Y[point[1]]


def stretched(squares, flipped):
    """Returns the region in which each square with coordinates from 0 on is replaced by a great box."""
    made = Region.of(*[stretch_square(square) for square in squares])
    return ~made if flipped else made

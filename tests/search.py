"""Slow searches for stages 7 to 9: squares, chords and ways are gone through one by one."""

import heapq
import itertools

from tests import slow


def around(distance):
    return (-distance, -distance, distance + 1, distance + 1)


def reach(one, other):
    """Returns the least distance of a square of one pair and a square of another one, or None."""
    window = slow.around_squares(one[0] | other[0], 2)
    near = [square for square in window if (square in one[0]) != one[1]]
    far = [square for square in window if (square in other[0]) != other[1]]
    return min([max(abs(x - a), abs(y - b)) for x, y in near for a, b in far], default=None)


def least_growth(squares, flipped, has_property):
    """Returns the least distance by which a pair must grow to have a property."""
    for distance in itertools.count():
        if has_property(*slow.grown(squares, flipped, around(distance))):
            return distance


def joining(squares, flipped):
    return least_growth(squares, flipped, lambda *pair: len(slow.parts(*pair, True)) <= 1)


def closing(squares, flipped):
    return least_growth(squares, flipped, lambda *pair: not slow.holes(*pair, False))


def hole_closing(squares, flipped, hole):
    return least_growth(squares, flipped, lambda some, turned: all((square in some) != turned for square in hole))


def squares_at(point):
    """Returns the four squares at a point, those on the left first, the lower ones before the upper ones."""
    x, y = point
    return [(x - 1, y - 1), (x - 1, y), (x, y - 1), (x, y)]


def reflex_points(squares):
    """Returns, ascending, the points three of whose four squares are in a set."""
    points = {(x + u, y + v) for x, y in squares for u in (0, 1) for v in (0, 1)}
    return sorted(point for point in points if sum(square in squares for square in squares_at(point)) == 3)


def chords(squares):
    """Returns the level and the upright chords, found piece by piece."""
    points = reflex_points(squares)
    level, upright = [], []
    for one, other in itertools.combinations(points, 2):
        (x, y), (a, b) = one, other
        if y == b and all((k, y - 1) in squares and (k, y) in squares for k in range(x, a)):
            level.append((one, other))
        if x == a and all((x - 1, k) in squares and (x, k) in squares for k in range(y, b)):
            upright.append((one, other))
    return level, upright


def points_of(chord):
    (x, y), (a, b) = chord
    return {(u, v) for u in range(x, a + 1) for v in range(y, b + 1)}


def most_free(found):
    """Returns the greatest number of chords without common points, found by trying all."""
    if not found:
        return 0
    first, rest = points_of(found[0]), found[1:]
    apart = [chord for chord in rest if not first & points_of(chord)]
    if len(apart) == len(rest):
        return 1 + most_free(rest)
    return max(1 + most_free(apart), most_free(rest))


def fewest(squares, known):
    """Returns the least number of boxes without common squares that make up a set, found by trying all."""
    if not squares:
        return 0
    if squares not in known:
        x, y = min(squares)
        best = len(squares)
        for a in range(x + 1, x + 20):
            if (a - 1, y) not in squares:
                break
            for b in range(y + 1, y + 20):
                box = {(u, v) for u in range(x, a) for v in range(y, b)}
                if not box <= squares:
                    break
                best = min(best, 1 + fewest(squares - box, known))
        known[squares] = best
    return known[squares]


def way_lengths(squares, flipped, start, beyond=2):
    """Returns a dict from each square of a window that can be come to from start to the least number of steps."""
    inside = {square for square in slow.around_squares(squares | {start}, beyond) if (square in squares) != flipped}
    lengths = {start: 0}
    queue = [start]
    for x, y in queue:
        for u, v in slow.EDGES:
            square = (x + u, y + v)
            if square in inside and square not in lengths:
                lengths[square] = lengths[x, y] + 1
                queue.append(square)
    return lengths


def lines_of(region, squares):
    """Returns the xs and the ys along which shortest ways can go: those at borders, and those of some squares."""
    xs, ys = {x for x, _ in squares}, {y for _, y in squares}
    for x1, x2, spans in region.slabs:
        xs |= {x1 - 1, x1, x2 - 1, x2}
        for y1, y2 in spans:
            ys |= {y1 - 1, y1, y2 - 1, y2}
    return sorted(xs), sorted(ys)


def great_way_length(region, start, goal):
    """Returns the length of a shortest way along the lines at borders, for coordinates of any size."""
    xs, ys = lines_of(region, [start, goal])
    inside = {(x, y) for x in xs for y in ys if (x, y) in region}

    def neighbours(x, y):
        i, j = xs.index(x), ys.index(y)
        for k, m in ((i - 1, j), (i + 1, j), (i, j - 1), (i, j + 1)):
            # Between two lines that are next to each other all squares are of one kind: one of them tells.
            if 0 <= k < len(xs) and 0 <= m < len(ys) and (xs[k], ys[m]) in inside:
                middle = (x + xs[k]) // 2, (y + ys[m]) // 2
                if middle in region:
                    yield xs[k], ys[m]

    lengths = {}
    queue = [(0, start)]
    while queue:
        length, (x, y) = heapq.heappop(queue)
        if (x, y) not in lengths:
            lengths[x, y] = length
            for a, b in neighbours(x, y):
                heapq.heappush(queue, (length + abs(x - a) + abs(y - b), (a, b)))
    return lengths.get(goal)

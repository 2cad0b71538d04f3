"""What stays and what moves along for moved and scaled regions: guarantee (j) for stages 7 to 12."""

import unittest

from boxregions.borders import loops
from boxregions.moves import mirrored, scaled, shifted, turned
from boxregions.reaches import closing, hole_closing, joining, reach
from boxregions.shadows import least_count, product, shadow
from boxregions.splitting import chords, fewest, is_split, split
from boxregions.texts import format_region, parse_region
from boxregions.ways import is_way, way, way_length
from tests import slow
from tests.grids import BIG
from tests.test_reaches import HALLS
from tests.test_splitting import GRID, LINES
from tests.test_ways import MAZE

# For each move: how it takes a region, a square and a point at which squares meet.
MOVES = [
    (lambda region: shifted(region, BIG, -7), lambda x, y: (x + BIG, y - 7), lambda x, y: (x + BIG, y - 7)),
    (mirrored, lambda x, y: (-x - 1, y), lambda x, y: (-x, y)),
    (turned, lambda x, y: (-y - 1, x), lambda x, y: (-y, x)),
]
FACTORS = [1, 2, 3, 10 ** 20]


def samples():
    """Returns small and great regions, bounded and unbounded."""
    pairs = slow.larger_pairs()[:36] + [(squares, flipped) for squares in (LINES, GRID, MAZE) for flipped in (False, True)]
    great = [slow.stretched(*pair) for pair in pairs[2:16] + pairs[-4:]]
    return [slow.region_of_pair(*pair) for pair in pairs] + great + [HALLS]


def corners_of(region):
    """Returns some squares of a region: those at the first points of its slabs, and beside them."""
    found = []
    for x1, x2, spans in region.slabs:
        for y1, y2 in spans:
            found.extend([(x1, y1), (x2 - 1, y2 - 1), (x1 - 1, y1), (x2, y2)])
    return [square for square in found if square in region]


def moved_chords(found, place):
    """Returns the chords at which those of a region come to be."""
    return [sorted(tuple(sorted(place(*point) for point in chord)) for chord in items) for items in found]


class TestMoved(unittest.TestCase):

    def test_reaches(self):
        for region in samples():
            for move, place, _ in MOVES:
                self.assertEqual([joining(move(region)), closing(move(region))], [joining(region), closing(region)])
                for square in corners_of(~region)[:3]:
                    self.assertEqual(self.closing_at(move(region), place(*square)), self.closing_at(region, square))

    def closing_at(self, region, square):
        """Returns what hole_closing returns, or the class of what it raises."""
        try:
            return hole_closing(region, square)
        except ValueError as error:
            return type(error)

    def test_reaches_of_two(self):
        regions = samples()
        for at, region in enumerate(regions):
            other = shifted(regions[at - 6], 30, 20)
            for move, _, _ in MOVES:
                self.assertEqual(reach(move(region), move(other)), reach(region, other))

    def test_chords_and_fewest_boxes(self):
        for region in samples():
            if region.is_bounded:
                before = chords(region)
                many = split(region)
                for move, _, place in MOVES:
                    found = chords(move(region))
                    want = moved_chords(before, place)
                    self.assertEqual(list(found), want[::-1] if move is turned else want)
                    self.assertEqual(fewest(move(region)), fewest(region))
                    after = split(move(region))
                    self.assertTrue(is_split(move(region), after))
                    self.assertEqual([len(items) for items in after], [len(items) for items in many])

    def test_ways(self):
        for region in samples():
            inside = corners_of(region)
            for start, goal in zip(inside[::4], inside[3::3]):
                length, found = way_length(region, start, goal), way(region, start, goal)
                for move, place, _ in MOVES:
                    moved = move(region), place(*start), place(*goal)
                    self.assertEqual(way_length(*moved), length)
                    if found is not None:
                        self.assertTrue(is_way(*moved, [place(*square) for square in found]))

    def test_shadows(self):
        for region in samples():
            if region.is_bounded:
                xs, ys = shadow(region, "x"), shadow(region, "y")
                flipped = [(-b, -a) for a, b in xs[::-1]]
                self.assertEqual(shadow(mirrored(region), "x"), flipped)
                self.assertEqual(shadow(mirrored(region), "y"), ys)
                self.assertEqual(shadow(turned(region), "y"), xs)
                self.assertEqual(shadow(turned(region), "x"), [(-b, -a) for a, b in ys[::-1]])
                self.assertEqual(shadow(shifted(region, BIG, 0), "x"), [(a + BIG, b + BIG) for a, b in xs])
                self.assertEqual(least_count(flipped, ys), least_count(xs, ys))
                self.assertEqual(mirrored(product(xs, ys)), product(flipped, ys))

    def test_what_is_formatted_can_be_parsed_back(self):
        for region in samples():
            for move, _, _ in MOVES:
                self.assertEqual(parse_region(format_region(move(region))), move(region))


class TestScaled(unittest.TestCase):

    def test_numbers(self):
        for region in samples():
            if region.is_bounded:
                before = chords(region)
                for factor in FACTORS:
                    made = scaled(region, factor)
                    want = moved_chords(before, lambda x, y: (x * factor, y * factor))
                    self.assertEqual(list(chords(made)), want)
                    self.assertEqual(fewest(made), fewest(region))
                    self.assertTrue(is_split(made, split(made)))
                    self.assertEqual(len(loops(made)), len(loops(region)))

    def test_reach(self):
        regions = samples()
        for at, region in enumerate(regions):
            other = shifted(regions[at - 6], 30, 20)
            least = reach(region, other)
            for factor in FACTORS:
                got = reach(scaled(region, factor), scaled(other, factor))
                self.assertEqual(got, (least - 1) * factor + 1 if least else least)

    def test_least_counts(self):
        for region in samples():
            if region.is_bounded:
                xs, ys = shadow(region, "x"), shadow(region, "y")
                for factor in FACTORS:
                    made = scaled(region, factor)
                    self.assertEqual(shadow(made, "x"), [(a * factor, b * factor) for a, b in xs])
                    self.assertEqual(shadow(made, "y"), [(a * factor, b * factor) for a, b in ys])
                    self.assertEqual(least_count(shadow(made, "x"), shadow(made, "y")), least_count(xs, ys) * factor)

    def test_texts(self):
        for region in samples():
            for factor in FACTORS:
                made = scaled(region, factor)
                self.assertEqual(parse_region(format_region(made)), made)


if __name__ == "__main__":
    unittest.main()

"""What stays and what moves along for moved and scaled regions: guarantee (j) for stages 3 to 6."""

import unittest

from boxregions.borders import border_length, from_loops, loop_area, loops
from boxregions.counting import count, greatest_boxes, nth, rank, side, widest
from boxregions.growing import closed, opened
from boxregions.moves import mirrored, scaled, shifted, turned
from boxregions.parts import corner_counts, holes, part_of, parts
from tests import slow
from tests.grids import BIG

# For each move: how it takes a region, a box inside a region, and a box by which a region is grown.
MOVES = [
    (lambda region: shifted(region, BIG, -7), lambda x1, y1, x2, y2: (x1 + BIG, y1 - 7, x2 + BIG, y2 - 7), lambda *box: box),
    (mirrored, lambda x1, y1, x2, y2: (-x2, y1, -x1, y2), lambda x1, y1, x2, y2: (1 - x2, y1, 1 - x1, y2)),
    (turned, lambda x1, y1, x2, y2: (-y2, x1, -y1, x2), lambda x1, y1, x2, y2: (1 - y2, x1, 1 - y1, x2)),
]
BOXES = [(0, 0, 1, 1), (-1, -1, 2, 2), (0, 0, 3, 1), (2, -1, 4, 3)]
FACTORS = [1, 2, 3, 10 ** 20]


def samples():
    """Returns small and great regions, bounded and unbounded."""
    pairs = slow.larger_pairs()[:30]
    great = [slow.stretched(*pair) for pair in pairs[2:14]]
    return [slow.region_of_pair(*pair) for pair in pairs] + great


def numbers(region):
    """Returns what stays for moved regions, and all but the last one for scaled ones."""
    return [
        len(parts(region)), len(parts(region, corners=True)), len(holes(region)), len(holes(region, corners=True)),
        corner_counts(region), border_length(region),
    ]


class TestMoved(unittest.TestCase):

    def test_numbers_stay(self):
        for region in samples():
            for move, _, _ in MOVES:
                self.assertEqual(numbers(move(region)), numbers(region))
                if region.is_bounded:
                    self.assertEqual(count(move(region)), count(region))
                    self.assertEqual(side(move(region)), side(region))

    def same(self, regions, others):
        self.assertEqual(sorted(repr(region) for region in regions), sorted(repr(region) for region in others))

    def test_parts_and_holes_move_along(self):
        for region in samples():
            for move, _, _ in MOVES:
                for corners in (False, True):
                    self.same(parts(move(region), corners=corners), [move(part) for part in parts(region, corners=corners)])
                    self.same(holes(move(region), corners=corners), [move(hole) for hole in holes(region, corners=corners)])

    def test_the_part_of_a_square_moves_along(self):
        for region in samples():
            for move, place, _ in MOVES:
                for square in [(0, 0), (2, 2), (BIG, BIG + 1)]:
                    x, y, _, _ = place(*square, square[0] + 1, square[1] + 1)
                    part = part_of(region, square)
                    self.assertEqual(part_of(move(region), (x, y)), part if part is None else move(part))

    def test_greatest_boxes_move_along(self):
        for region in samples():
            if region.is_bounded:
                boxes = list(greatest_boxes(region))
                for move, place, _ in MOVES:
                    self.assertEqual(list(greatest_boxes(move(region))), sorted(place(*box) for box in boxes))

    def test_order_stays_for_shifted_regions(self):
        for region in samples():
            if region.is_bounded and region:
                moved, many = shifted(region, -BIG, 9), count(region)
                for number in [0, many // 3, many - 1]:
                    x, y = nth(region, number)
                    self.assertEqual(nth(moved, number), (x - BIG, y + 9))
                    self.assertEqual(rank(moved, (x - BIG, y + 9)), number)
                x1, y1, x2, y2 = widest(region)
                self.assertEqual(widest(moved), (x1 - BIG, y1 + 9, x2 - BIG, y2 + 9))

    def test_grown_and_shrunk_regions_move_along(self):
        for region in samples():
            for move, _, turn in MOVES:
                for box in BOXES:
                    moved = move(region)
                    self.assertEqual(move(region + box), moved + turn(*box))
                    self.assertEqual(move(region // box), moved // turn(*box))
                    self.assertEqual(move(opened(region, box)), opened(moved, turn(*box)))
                    self.assertEqual(move(closed(region, box)), closed(moved, turn(*box)))

    def test_shifted_loops(self):
        for region in samples():
            want = [[(x + 3, y - BIG) for x, y in loop] for loop in loops(region)]
            self.assertEqual(loops(shifted(region, 3, -BIG)), want)


class TestScaled(unittest.TestCase):

    def test_numbers(self):
        for region in samples():
            before = numbers(region)
            for factor in FACTORS:
                got = numbers(scaled(region, factor))
                self.assertEqual(got[:-1], before[:-1])
                self.assertEqual(got[-1], before[-1] * factor)
                if region.is_bounded:
                    self.assertEqual(count(scaled(region, factor)), count(region) * factor * factor)
                    self.assertEqual(side(scaled(region, factor)), side(region) * factor)

    def test_loops_and_greatest_boxes(self):
        for region in samples():
            found = loops(region)
            for factor in FACTORS:
                made = scaled(region, factor)
                want = [[(x * factor, y * factor) for x, y in loop] for loop in found]
                self.assertEqual(loops(made), want)
                self.assertEqual([loop_area(loop) for loop in want], [loop_area(loop) * factor ** 2 for loop in found])
                if region:
                    self.assertEqual(from_loops(want), made if found else region.empty())
                if region.is_bounded:
                    boxes = [tuple(factor * number for number in box) for box in greatest_boxes(region)]
                    self.assertEqual(list(greatest_boxes(made)), boxes)

    def test_parts_and_holes(self):
        for region in samples():
            for corners in (False, True):
                made = scaled(region, 7)
                self.assertEqual(parts(made, corners=corners), [scaled(part, 7) for part in parts(region, corners=corners)])
                self.assertEqual(holes(made, corners=corners), [scaled(hole, 7) for hole in holes(region, corners=corners)])


if __name__ == "__main__":
    unittest.main()

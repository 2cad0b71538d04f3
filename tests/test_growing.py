"""Stage 3: growing, shrinking, opening, closing, and the boxes around a square."""

import unittest

from boxregions.errors import InvalidBox, InvalidNumber, InvalidRegion
from boxregions.growing import around, closed, opened
from boxregions.regions import Region
from tests import slow
from tests.grids import BIG, NO_BOXES, NO_INTEGERS, NO_REGIONS, is_form, squares_of_slabs

# With the square (0, 0) in them, beside it, far from it; lines, points and squares.
BOXES = [
    (0, 0, 1, 1), (-1, -1, 2, 2), (0, 0, 2, 1), (0, 0, 1, 3), (-2, 0, 1, 1), (1, 1, 2, 2), (-3, 2, -1, 3), (2, -4, 5, -2),
]
CALLS = [
    lambda region, box: region + box, lambda region, box: region // box, opened, closed,
]


class TestSmallRegions(unittest.TestCase):

    def test_example(self):
        one = Region.of((0, 0, 5, 3), (5, 1, 8, 2))
        got = [(one + (0, 0, 2, 1)).slabs, (one // (0, 0, 2, 2)).slabs, opened(one, (0, 0, 2, 2)).slabs, around(1)]
        self.assertEqual(got, [
            [(0, 6, [(0, 3)]), (6, 9, [(1, 2)])], [(0, 4, [(0, 2)])], [(0, 5, [(0, 3)])], (-1, -1, 2, 2),
        ])

    def check(self, region, pair):
        self.assertTrue(is_form(region.slabs), region)
        self.assertIs(region.is_bounded, not pair[1])
        self.assertEqual(squares_of_slabs(region.slabs), pair[0])

    def check_all(self, squares, flipped, box):
        region = slow.region_of_pair(squares, flipped)
        larger, smaller = slow.grown(squares, flipped, box), slow.shrunk(squares, flipped, box)
        self.check(region + box, larger)
        self.check(region // box, smaller)
        self.check(opened(region, box), slow.grown(*smaller, box))
        self.check(closed(region, box), slow.shrunk(*larger, box))

    def test_all_small_regions(self):
        for squares, flipped in slow.small_pairs(3, 3):
            for box in BOXES:
                self.check_all(squares, flipped, box)

    def test_larger_regions(self):
        for squares, flipped in slow.larger_pairs():
            for box in [(-1, -1, 2, 2), (0, 0, 3, 1), (-1, 2, 1, 5), (-4, -4, 5, 5)]:
                self.check_all(squares, flipped, box)

    def test_empty_and_everything_stay(self):
        for region in (Region.empty(), Region.everything()):
            for box in BOXES + [(-BIG, -BIG, BIG, BIG)]:
                for call in CALLS:
                    self.assertEqual(call(region, box), region)

    def test_what_is_shrunk_away_and_grown_over(self):
        square = Region.of((0, 0, 3, 3))
        self.assertEqual(square // (0, 0, 3, 3), Region.of((0, 0, 1, 1)))
        self.assertEqual(square // (0, 0, 4, 1), Region.empty())
        self.assertEqual(square // (0, 0, 1, 4), Region.empty())
        self.assertEqual(~square + (0, 0, 4, 1), Region.everything())
        self.assertEqual(~square + (-1, 0, 2, 3), ~Region.of((1, 2, 2, 3)))

    def test_a_grown_region_lies_in_another_exactly_if_it_lies_in_that_shrunk(self):
        pairs = list(slow.small_pairs(2, 2))
        for box in [(0, 0, 1, 1), (0, 0, 2, 1), (-1, -1, 1, 1), (1, 0, 2, 3)]:
            for first in pairs:
                one = slow.region_of_pair(*first)
                for second in pairs:
                    other = slow.region_of_pair(*second)
                    self.assertIs((one + box).within(other), one.within(other // box))

    def test_growing_in_steps(self):
        for squares, flipped in slow.larger_pairs()[:20]:
            region = slow.region_of_pair(squares, flipped)
            self.assertEqual((region + (0, 0, 2, 1)) + (0, -1, 1, 2), region + (0, -1, 2, 2))
            self.assertEqual((region // (0, 0, 2, 1)) // (0, -1, 1, 2), region // (0, -1, 2, 2))
            self.assertEqual(~(region + (0, -1, 3, 2)), ~region // (-2, -1, 1, 2))


class TestGreatNumbers(unittest.TestCase):

    def check_at(self, region, box, x, y):
        """Checks one square against the meaning of growing and shrinking, told by the other operators."""
        u1, v1, u2, v2 = box
        back = Region.of((x - u2 + 1, y - v2 + 1, x - u1 + 1, y - v1 + 1))
        forth = Region.of((x + u1, y + v1, x + u2, y + v2))
        self.assertIs((x, y) in region + box, bool(region & back))
        self.assertIs((x, y) in region // box, forth.within(region))

    def test_squares_at_the_ends_of_slabs_and_spans(self):
        for squares, flipped in [(slow.CHESS, False), (slow.STEPS, True), (slow.SIDE_BY_SIDE, False)]:
            region = slow.stretched(squares, flipped)
            for box in [(-BIG, -3, BIG + 1, 4), (5, -10 ** 29, 6, 2 * 10 ** 30)]:
                for wider in (region + box, region // box):
                    self.assertTrue(is_form(wider.slabs))
                    for x1, x2, spans in wider.slabs[::3]:
                        for y1, y2 in spans[:2]:
                            for square in [(x1, y1), (x1 - 1, y1), (x2, y2 - 1), (x2 - 1, y2)]:
                                self.check_at(region, box, *square)

    def test_shifted_and_scaled_examples(self):
        one = Region.of((BIG, -BIG, BIG + 3, -BIG + 5))
        self.assertEqual(one + (BIG, BIG, BIG + 1, BIG + 2), Region.of((2 * BIG, 0, 2 * BIG + 3, 6)))
        self.assertEqual(one // (BIG, BIG, BIG + 3, BIG + 4), Region.of((0, -2 * BIG, 1, 2 - 2 * BIG)))
        ring = Region.of((0, 0, 9 * BIG, 9 * BIG)) - Region.of((4 * BIG, 4 * BIG, 5 * BIG, 5 * BIG))
        self.assertEqual(closed(ring, (0, 0, BIG, BIG)), ring)
        self.assertEqual(closed(ring, (0, 0, BIG + 1, 1)), Region.of((0, 0, 9 * BIG, 9 * BIG)))
        self.assertEqual(opened(~ring, (0, 0, BIG + 1, 1)), ~Region.of((0, 0, 9 * BIG, 9 * BIG)))

    def test_a_hundred_spans(self):
        many = Region.of(*[(k * BIG, k % 7 * BIG, k * BIG + 5, k % 7 * BIG + 5) for k in range(100)])
        grown = many + around(BIG // 2 - 3)
        self.assertEqual(len(list(grown.boxes())), 100)
        self.assertEqual(grown // around(BIG // 2 - 3), many)
        self.assertEqual((~many // around(BIG // 2 - 3)) + around(BIG // 2 - 3), ~many)
        self.assertEqual(many // around(3), Region.empty())
        self.assertEqual(~many + around(3), Region.everything())
        self.assertEqual(len((~many + around(2)).slabs), 100)


class TestArguments(unittest.TestCase):

    def test_around(self):
        self.assertEqual([around(0), around(5)], [(0, 0, 1, 1), (-5, -5, 6, 6)])
        self.assertEqual(around(BIG), (-BIG, -BIG, BIG + 1, BIG + 1))
        for bad in NO_INTEGERS + [-1, -BIG]:
            with self.assertRaises(InvalidNumber) as caught:
                around(bad)
            self.assertIs(caught.exception.value, bad)

    def test_no_boxes(self):
        for region in (Region.empty(), Region.everything(), Region.of((0, 0, 5, 5)), ~Region.of((0, 0, 5, 5))):
            before = repr(region)
            for bad in NO_BOXES:
                for call in CALLS:
                    with self.assertRaises(InvalidBox) as caught:
                        call(region, bad)
                    self.assertIs(caught.exception.value, bad)
            self.assertEqual(repr(region), before)

    def test_no_regions(self):
        for bad in NO_REGIONS:
            for box in [(0, 0, 1, 1), None, (0, 0, 0, 0)]:
                for call in (opened, closed):
                    with self.assertRaises(InvalidRegion) as caught:
                        call(bad, box)
                    self.assertIs(caught.exception.value, bad)

    def test_something_else_on_the_left(self):
        region = Region.of((0, 0, 1, 1))
        for bad in NO_REGIONS:
            for call in CALLS[:2]:
                with self.assertRaises(InvalidRegion) as caught:
                    call(bad, region)
                self.assertIs(caught.exception.value, bad)

    def test_arguments_do_not_change_and_results_are_new(self):
        for region in (Region.empty(), Region.everything(), Region.of((0, 0, 5, 5)), ~Region.of((0, 0, 5, 5), (7, 0, 8, 1))):
            before = repr(region)
            for call in CALLS:
                got = call(region, (0, 0, 1, 1))
                self.assertEqual(got, region)
                self.assertIsNot(got, region)
                got.slabs.clear()
                self.assertEqual(got, region)
            kept = region
            kept += (0, 0, 2, 2)
            kept //= (-1, -1, 2, 2)
            self.assertEqual(repr(region), before)


if __name__ == "__main__":
    unittest.main()

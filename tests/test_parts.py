"""Stage 5: parts, holes, and the corners that tell their numbers."""

import unittest

from boxregions.errors import InvalidNumber, InvalidRegion, InvalidSquare
from boxregions.parts import corner_counts, holes, part_of, parts
from boxregions.regions import Region
from tests import slow
from tests.grids import BIG, NO_BOOLS, NO_REGIONS, NO_SQUARES, is_form

SIDES = (False, True)


class TestSmallRegions(unittest.TestCase):

    def test_example(self):
        one = Region.of((0, 0, 1, 1), (1, 1, 2, 2))
        ring = Region.of((0, 0, 3, 3)) - Region.of((1, 1, 2, 2))
        got = [
            len(parts(one)), len(parts(one, corners=True)), corner_counts(one), holes(ring)[0].slabs, corner_counts(ring),
        ]
        self.assertEqual(got, [2, 1, (6, 0, 1), [(1, 2, [(1, 2)])], (4, 4, 0)])

    def check(self, squares, flipped):
        region = slow.region_of_pair(squares, flipped)
        for corners in SIDES:
            found, inside = parts(region, corners=corners), holes(region, corners=corners)
            self.assertEqual([slow.pair_of(part) for part in found], slow.parts(squares, flipped, corners))
            self.assertEqual([slow.pair_of(part) for part in inside], slow.holes(squares, flipped, corners))
            self.assertTrue(all(is_form(part.slabs) for part in found + inside))
            convex, reflex, touching = corner_counts(region)
            turns = convex - reflex + (-2 if corners else 2) * touching
            self.assertEqual(4 * (len(found) - len(inside) - flipped), turns)
        self.assertEqual(parts(region), parts(region, corners=False))
        self.assertEqual(holes(region), holes(region, corners=False))
        self.assertEqual(corner_counts(region), slow.corner_counts(squares, flipped))

    def check_part_of(self, squares, flipped):
        region = slow.region_of_pair(squares, flipped)
        for corners in SIDES:
            found = parts(region, corners=corners)
            for square in slow.around_squares(squares):
                want = [part for part in found if square in part] or [None]
                self.assertEqual(len(want), 1)
                self.assertEqual(part_of(region, square, corners=corners), want[0])
                if not corners:
                    self.assertEqual(part_of(region, square), want[0])

    def test_all_small_regions(self):
        for squares, flipped in slow.small_pairs(3, 3):
            self.check(squares, flipped)
        for squares, flipped in slow.small_pairs(2, 3):
            self.check_part_of(squares, flipped)

    def test_larger_regions(self):
        for squares, flipped in slow.larger_pairs():
            self.check(squares, flipped)
        for squares in (slow.NESTED, slow.CHAIN, slow.COMB):
            for flipped in SIDES:
                self.check_part_of(squares, flipped)

    def test_empty_and_everything(self):
        empty, everything = Region.empty(), Region.everything()
        for corners in SIDES:
            self.assertEqual([parts(empty, corners=corners), holes(empty, corners=corners)], [[], []])
            self.assertEqual([parts(everything, corners=corners), holes(everything, corners=corners)], [[everything], []])
            self.assertIsNone(part_of(empty, (0, 0), corners=corners))
            self.assertEqual(part_of(everything, (BIG, 0), corners=corners), everything)
        self.assertEqual([corner_counts(empty), corner_counts(everything)], [(0, 0, 0), (0, 0, 0)])

    def test_parts_within_holes_within_parts(self):
        for corners, many in [(False, 6), (True, 3)]:
            region = slow.region_of_pair(slow.NESTED, False)
            self.assertEqual(len(parts(region, corners=corners)), many)
        self.assertEqual(len(holes(region)), 2)
        self.assertEqual(len(holes(region, corners=True)), 3)
        self.assertEqual([part.is_bounded for part in parts(~region)], [True, True, True, False])

    def test_slabs_side_by_side(self):
        touching = Region.of((0, 0, 2, 2), (2, 2, 4, 4))
        self.assertEqual([len(parts(touching)), len(parts(touching, corners=True))], [2, 1])
        falling = Region.of((0, 2, 2, 4), (2, 0, 4, 2))
        self.assertEqual([len(parts(falling)), len(parts(falling, corners=True))], [2, 1])
        apart = Region.of((0, 0, 2, 2), (3, 0, 4, 2), (0, 3, 2, 4))
        self.assertEqual([len(parts(apart)), len(parts(apart, corners=True))], [3, 3])

    def test_the_order_is_that_of_first_squares(self):
        region = Region.of((5, 0, 6, 1), (0, 9, 8, 10), (0, 5, 1, 6), (3, -4, 4, 7))
        firsts = [next(part.boxes())[:2] for part in parts(region)]
        self.assertEqual(firsts, [(0, 5), (0, 9), (3, -4), (5, 0)])
        self.assertEqual([part.is_bounded for part in parts(~region)], [False])
        self.assertEqual([next(part.boxes())[:2] for part in holes(~region)], firsts)


class TestGreatNumbers(unittest.TestCase):

    def check(self, squares, flipped):
        region = slow.stretched(squares, flipped)
        for corners in SIDES:
            want = [slow.stretched(*pair) for pair in slow.parts(squares, flipped, corners)]
            self.assertEqual(parts(region, corners=corners), want)
            for part in want:
                if part.is_bounded:
                    square = next(part.boxes())[:2]
                    self.assertEqual(part_of(region, square, corners=corners), part)
            want = [slow.stretched(*pair) for pair in slow.holes(squares, flipped, corners)]
            self.assertEqual(holes(region, corners=corners), want)
        self.assertEqual(corner_counts(region), slow.corner_counts(squares, flipped))

    def test_stretched_regions(self):
        for squares in (slow.NESTED, slow.CHESS, slow.COMB, slow.STEPS, slow.CHAIN, slow.SIDE_BY_SIDE):
            for flipped in SIDES:
                self.check(squares, flipped)

    def test_far_squares(self):
        ring = Region.of((-BIG, -BIG, BIG, BIG)) - Region.of((0, 0, 5, 5))
        self.assertEqual(part_of(~ring, (5 * BIG, 5 * BIG)), ~Region.of((-BIG, -BIG, BIG, BIG)))
        self.assertEqual(part_of(~ring, (4, 0)), Region.of((0, 0, 5, 5)))
        self.assertIsNone(part_of(~ring, (5, 0)))

    def test_a_hundred_spans(self):
        chain = Region.of(*[(k * BIG, k * BIG, (k + 1) * BIG, (k + 1) * BIG) for k in range(100)])
        self.assertEqual([len(parts(chain)), len(parts(chain, corners=True))], [100, 1])
        self.assertEqual([len(parts(~chain)), len(parts(~chain, corners=True))], [1, 1])
        self.assertEqual([len(holes(~chain)), len(holes(~chain, corners=True))], [1, 100])
        self.assertEqual(corner_counts(chain), (4 * 100 - 2 * 99, 0, 99))
        lattice = Region.of((0, 0, 25 * BIG, 25 * BIG)) - Region.of(*[
            (2 * i * BIG + 5, 2 * j * BIG, 2 * i * BIG + 9, 2 * j * BIG + 9) for i in range(8) for j in range(8)
        ])
        self.assertEqual([len(parts(lattice)), len(holes(lattice)), len(parts(~lattice))], [1, 56, 57])


class TestArguments(unittest.TestCase):

    def test_no_regions(self):
        calls = [
            parts, holes, corner_counts, lambda bad: part_of(bad, (0, 0)), lambda bad: parts(bad, corners=True),
            lambda bad: parts(bad, corners=None), lambda bad: holes(bad, corners=0),
            lambda bad: part_of(bad, None), lambda bad: part_of(bad, (0, 0), corners=1),
        ]
        for bad in NO_REGIONS:
            for call in calls:
                with self.assertRaises(InvalidRegion) as caught:
                    call(bad)
                self.assertIs(caught.exception.value, bad)

    def test_no_bools(self):
        for region in (Region.empty(), Region.everything(), Region.of((0, 0, 1, 1)), ~Region.of((0, 0, 1, 1))):
            for bad in NO_BOOLS:
                for call in (parts, holes, lambda region, corners: part_of(region, (0, 0), corners=corners)):
                    with self.assertRaises(InvalidNumber) as caught:
                        call(region, corners=bad)
                    self.assertIs(caught.exception.value, bad)

    def test_no_squares(self):
        for region in (Region.empty(), Region.everything(), Region.of((0, 0, 1, 1)), ~Region.of((0, 0, 1, 1))):
            for bad in NO_SQUARES:
                for corners in (False, True, None, 0):
                    with self.assertRaises(InvalidSquare) as caught:
                        part_of(region, bad, corners=corners)
                    self.assertIs(caught.exception.value, bad)

    def test_corners_is_passed_by_name_only(self):
        region = Region.of((0, 0, 1, 1))
        for call in (parts, holes, lambda region, corners: part_of(region, (0, 0), corners)):
            with self.assertRaises(TypeError):
                call(region, True)

    def test_arguments_do_not_change_and_results_are_new(self):
        for flipped in SIDES:
            region = slow.region_of_pair(slow.NESTED, flipped)
            before = repr(region)
            for call in (parts, holes):
                first = call(region)
                want = [repr(part) for part in first]
                first[0].slabs.clear()
                first.clear()
                self.assertEqual([repr(part) for part in call(region)], want)
            corner_counts(region)
            part_of(region, (0, 0))
            self.assertEqual(repr(region), before)


if __name__ == "__main__":
    unittest.main()

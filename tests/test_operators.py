"""Stage 1: union, meet, difference, symmetric difference, complement and being within."""

import operator
import random
import unittest

from boxregions.errors import InvalidRegion
from boxregions.regions import Region, separating
from tests.grids import BIG, NO_REGIONS, all_sets, is_form, region_of, squares_of_slabs

OPERATORS = [operator.or_, operator.and_, operator.sub, operator.xor]

# Squares that stand for all others, since the sets below lie in a grid of 2 x 3 squares.
FAR = (BIG, -BIG)


def turned_around(squares, flag):
    """Returns a region of squares, or all others, and a set that has the square FAR if the region has it."""
    grid = {(x, y) for x in range(2) for y in range(3)} | {FAR}
    return (~region_of(squares), grid - squares) if flag else (region_of(squares), set(squares))


class TestOperators(unittest.TestCase):

    def check(self, region, squares):
        """Checks a region of squares of the grid, or of all squares but some of the grid."""
        self.assertTrue(is_form(region.slabs), region)
        self.assertIs(region.is_bounded, FAR not in squares)
        grid = {(x, y) for x in range(2) for y in range(3)}
        inside = squares if FAR not in squares else grid - squares
        self.assertEqual(squares_of_slabs(region.slabs), inside)

    def test_all_pairs_of_small_regions(self):
        sets = list(all_sets(2, 3))
        sides = [turned_around(squares, flag) for squares in sets for flag in (False, True)]
        for one, first in sides:
            for other, second in sides:
                for combine in OPERATORS:
                    self.check(combine(one, other), combine(first, second))
                self.assertIs(one.within(other), first <= second)

    def test_complement(self):
        for squares in all_sets(2, 3):
            one, first = turned_around(squares, False)
            self.check(~one, turned_around(squares, True)[1])
            self.check(~~one, first)
            self.assertEqual(~~one, one)
            self.assertNotEqual(~one, one)

    def test_forms_stay_the_only_ones(self):
        block = Region.of((0, 0, 6, 6))
        hole = Region.of((2, 2, 4, 4))
        ring = block - hole
        self.assertEqual(ring.slabs, [(0, 2, [(0, 6)]), (2, 4, [(0, 2), (4, 6)]), (4, 6, [(0, 6)])])
        self.assertEqual((ring | hole).slabs, [(0, 6, [(0, 6)])])
        self.assertEqual((ring ^ hole).slabs, [(0, 6, [(0, 6)])])
        self.assertEqual((ring & hole).slabs, [])
        self.assertEqual((block ^ block).slabs, [])
        self.assertEqual((~ring & block).slabs, [(2, 4, [(2, 4)])])
        self.assertEqual((~ring | ring), Region.everything())
        self.assertEqual((ring - Region.of((2, 0, 4, 2))).slabs, [(0, 2, [(0, 6)]), (2, 4, [(4, 6)]), (4, 6, [(0, 6)])])
        self.assertEqual((ring - Region.of((2, 0, 4, 6))).slabs, [(0, 2, [(0, 6)]), (4, 6, [(0, 6)])])

    def test_regions_that_touch(self):
        left, right = Region.of((0, 0, 2, 2)), Region.of((2, 0, 4, 2))
        self.assertEqual((left | right).slabs, [(0, 4, [(0, 2)])])
        self.assertEqual((left ^ right).slabs, [(0, 4, [(0, 2)])])
        self.assertEqual((left & right).slabs, [])
        self.assertEqual((left - right).slabs, [(0, 2, [(0, 2)])])
        low, high = Region.of((0, 0, 2, 2)), Region.of((0, 2, 2, 4))
        self.assertEqual((low | high).slabs, [(0, 2, [(0, 4)])])
        self.assertEqual((low & high).slabs, [])

    def test_with_empty_and_everything(self):
        empty, everything = Region.empty(), Region.everything()
        for one in (empty, everything, Region.of((0, 0, 1, 1), (3, 3, BIG, BIG)), ~Region.of((0, 0, 1, 1))):
            self.assertEqual([one | empty, one & everything, one - empty, one ^ empty], [one] * 4)
            self.assertEqual([one & empty, one - everything, one - one, one ^ one], [empty] * 4)
            self.assertEqual([one | everything, one | ~one, one ^ ~one], [everything] * 3)
            self.assertEqual(one ^ everything, ~one)
            self.assertEqual(everything - one, ~one)
            self.assertIs(empty.within(one), True)
            self.assertIs(one.within(everything), True)
            self.assertIs(one.within(one), True)
            self.assertIs(everything.within(one), one == everything)
            self.assertIs(one.within(empty), one == empty)

    def test_great_coordinates(self):
        chance = random.Random(7)
        places = sorted([-BIG, -BIG + 1, -7, 0, 1, 10 ** 29, BIG - 1, BIG, BIG + 1, 2 * BIG])
        for _ in range(150):
            small = [self.random_boxes(chance, len(places) - 1) for _ in range(2)]
            great = [
                [(places[x1], places[y1], places[x2], places[y2]) for x1, y1, x2, y2 in boxes] for boxes in small
            ]
            flags = [chance.random() < 0.5 for _ in range(2)]
            one, other = [~Region.of(*boxes) if flag else Region.of(*boxes) for boxes, flag in zip(small, flags)]
            first, second = [~Region.of(*boxes) if flag else Region.of(*boxes) for boxes, flag in zip(great, flags)]
            for combine in OPERATORS:
                got, like = combine(first, second), combine(one, other)
                self.assertTrue(is_form(got.slabs))
                self.assertIs(got.is_bounded, like.is_bounded)
                self.assertEqual(got.slabs, [
                    (places[x1], places[x2], [(places[y1], places[y2]) for y1, y2 in spans])
                    for x1, x2, spans in like.slabs
                ])

    def random_boxes(self, chance, limit):
        boxes = []
        for _ in range(chance.randrange(6)):
            x, y = chance.randrange(limit), chance.randrange(limit)
            boxes.append((x, y, chance.randrange(x + 1, limit + 1), chance.randrange(y + 1, limit + 1)))
        return boxes

    def test_a_hundred_spans_with_great_coordinates(self):
        one = Region.of(*[(k * BIG, k * BIG, k * BIG + BIG // 2, k * BIG + BIG // 2) for k in range(50)])
        other = Region.of(*[(k * BIG + 5, 0, k * BIG + 6, 60 * BIG) for k in range(50)])
        self.assertEqual(len(list(one.boxes())), 50)
        self.assertEqual((one & other).slabs, [
            (k * BIG + 5, k * BIG + 6, [(k * BIG, k * BIG + BIG // 2)]) for k in range(50)
        ])
        self.assertEqual((one | other) - other, one - other)
        self.assertEqual((one ^ other) ^ other, one)
        self.assertEqual(~(~one & ~other), one | other)
        self.assertIsNone(separating((one - other) | (one & other), one))

    def test_something_else_on_the_right(self):
        for region in (Region.of((0, 0, 1, 1)), ~Region.of((0, 0, 1, 1)), Region.empty(), Region.everything()):
            before = repr(region)
            for bad in NO_REGIONS:
                for combine in OPERATORS + [lambda one, other: one.within(other)]:
                    with self.assertRaises(InvalidRegion) as caught:
                        combine(region, bad)
                    self.assertIs(caught.exception.value, bad)
            self.assertEqual(repr(region), before)

    def test_something_else_on_the_left(self):
        region = Region.of((0, 0, 1, 1))
        for bad in NO_REGIONS:
            for combine in OPERATORS:
                with self.assertRaises(InvalidRegion) as caught:
                    combine(bad, region)
                self.assertIs(caught.exception.value, bad)
        self.assertEqual(repr(region), "Region([(0, 1, [(0, 1)])])")

    def test_operands_do_not_change_and_results_are_new(self):
        one, other = Region.of((0, 0, 3, 3)), ~Region.of((1, 1, 2, 2))
        before = repr(one), repr(other)
        for combine in OPERATORS:
            for got in (combine(one, other), combine(one, one), combine(other, one)):
                self.assertIsNot(got, one)
                self.assertIsNot(got, other)
        kept = one
        kept |= other
        self.assertEqual((repr(one), repr(other)), before)
        self.assertEqual(kept, Region.everything())
        one.within(other)
        separating(one, other)
        self.assertEqual((repr(one), repr(other)), before)


if __name__ == "__main__":
    unittest.main()

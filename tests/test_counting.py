"""Stage 4: numbers of squares, places in their order, and greatest boxes."""

import random
import unittest

from boxregions.counting import count, greatest_boxes, nth, rank, side, widest
from boxregions.errors import InvalidNumber, InvalidRegion, InvalidSquare, Unbounded
from boxregions.regions import Region
from tests import slow
from tests.grids import BIG, NO_INTEGERS, NO_REGIONS, NO_SQUARES, all_sets, region_of

CALLS = [
    count, lambda region: nth(region, 0), lambda region: rank(region, (0, 0)), lambda region: list(greatest_boxes(region)),
    widest, side,
]
# The same with a second argument that is wrong, too.
WRONG_CALLS = CALLS + [lambda region: nth(region, None), lambda region: nth(region, -1), lambda region: rank(region, [])]


def area(box):
    return (box[2] - box[0]) * (box[3] - box[1])


class TestSmallRegions(unittest.TestCase):

    def test_example(self):
        one = Region.of((0, 0, 4, 2), (2, 0, 4, 5))
        got = [count(one), nth(one, 4), rank(one, (2, 3)), list(greatest_boxes(one)), widest(one), side(one)]
        self.assertEqual(got, [14, (2, 0), 7, [(0, 0, 4, 2), (2, 0, 4, 5)], (2, 0, 4, 5), 2])

    def check(self, squares):
        region, order = region_of(squares), sorted(squares)
        self.assertEqual(count(region), len(order))
        self.assertEqual([nth(region, number) for number in range(len(order))], order)
        for square in slow.around_squares(squares):
            self.assertEqual(rank(region, square), sum(other < square for other in order), square)
        for number in (-1, len(order), len(order) + 1):
            with self.assertRaises(InvalidNumber) as caught:
                nth(region, number)
            self.assertIs(caught.exception.value, number)

    def check_boxes(self, squares):
        region, boxes = region_of(squares), slow.greatest_boxes(squares)
        self.assertEqual(list(greatest_boxes(region)), boxes)
        most = max([area(box) for box in boxes], default=0)
        self.assertEqual(widest(region), ([box for box in boxes if area(box) == most] + [None])[0])
        sides = [box[2] - box[0] for box in slow.boxes_inside(squares) if box[2] - box[0] == box[3] - box[1]]
        self.assertEqual(side(region), max(sides, default=0))

    def test_all_small_regions(self):
        for squares in all_sets(3, 3):
            self.check(squares)
            self.check_boxes(squares)

    def test_larger_regions(self):
        for squares, flipped in slow.larger_pairs():
            if not flipped:
                self.check(squares)
                if squares != slow.NESTED:
                    self.check_boxes(squares)

    def test_empty(self):
        empty = Region.empty()
        self.assertEqual([count(empty), list(greatest_boxes(empty)), widest(empty), side(empty)], [0, [], None, 0])
        self.assertEqual(rank(empty, (BIG, BIG)), 0)
        for number in (0, 1, -1):
            with self.assertRaises(InvalidNumber):
                nth(empty, number)

    def test_squares_left_of_and_below_zero(self):
        region = Region.of((-5, -7, -3, -4), (-3, -4, -2, -2))
        self.assertEqual([nth(region, 0), nth(region, 4), nth(region, 7)], [(-5, -7), (-4, -6), (-3, -3)])
        self.assertEqual([rank(region, square) for square in [(-5, -8), (-4, -5), (-3, -9), (0, 0)]], [0, 5, 6, 8])

    def test_the_first_of_the_widest(self):
        region = Region.of((0, 0, 2, 3), (10, 0, 13, 2), (20, 0, 26, 1), (30, 0, 35, 1))
        self.assertEqual(widest(region), (0, 0, 2, 3))
        self.assertEqual(side(region), 2)


class TestGreatNumbers(unittest.TestCase):

    def test_counting(self):
        chance = random.Random(8)
        for squares in (slow.NESTED, slow.CHESS, slow.COMB, slow.STEPS, slow.SIDE_BY_SIDE):
            region = slow.stretched(squares, False)
            many = count(region)
            self.assertEqual(many, sum(area(slow.stretch_square(square)) for square in squares))
            numbers = [0, 1, many - 2, many - 1] + [chance.randrange(many) for _ in range(60)]
            found = [nth(region, number) for number in numbers]
            for number, square in zip(numbers, found):
                self.assertIn(square, region)
                self.assertEqual(rank(region, square), number)
            self.assertEqual(sorted(found), [nth(region, number) for number in sorted(numbers)])
            with self.assertRaises(InvalidNumber) as caught:
                nth(region, many)
            self.assertEqual(caught.exception.value, many)

    def test_rank_is_the_count_of_what_comes_before(self):
        for squares in (slow.NESTED, slow.STEPS, slow.SIDE_BY_SIDE):
            region = slow.stretched(squares, False)
            for x in [-4 * BIG, -BIG - 6, -BIG, 3, 10 ** 29, BIG + 2, 9 * BIG, 10 * BIG]:
                for y in [-2 * BIG, -7, 2, BIG, BIG + 7, 5 * BIG, 20 * BIG]:
                    before = Region.of((-5 * BIG, -5 * BIG, x, 20 * BIG), (x, -5 * BIG, x + 1, y))
                    self.assertEqual(rank(region, (x, y)), count(region & before))

    def test_greatest_boxes(self):
        for squares in (slow.CHESS, slow.COMB, slow.STEPS, slow.SIDE_BY_SIDE):
            region = slow.stretched(squares, False)
            boxes = [slow.stretch_box(box) for box in slow.greatest_boxes(squares)]
            self.assertEqual(list(greatest_boxes(region)), boxes)
            self.assertEqual(widest(region), max(boxes, key=area))
            self.assertEqual(side(region), max(min(box[2] - box[0], box[3] - box[1]) for box in boxes))

    def test_a_hundred_spans(self):
        holes = Region.of(*[(k * BIG + 1, k, (k + 1) * BIG, k + 1) for k in range(33)])
        region = Region.of((0, -1, 34 * BIG, 35)) - holes
        self.assertEqual(count(region), 36 * 34 * BIG - 33 * (BIG - 1))
        boxes = list(greatest_boxes(region))
        self.assertEqual(boxes, sorted(set(boxes)))
        union = Region.of(*boxes)
        self.assertEqual(union, region)
        for box in boxes:
            self.assertTrue(Region.of(box).within(region))
            x1, y1, x2, y2 = box
            for longer in [(x1 - 1, y1, x2, y2), (x1, y1 - 1, x2, y2), (x1, y1, x2 + 1, y2), (x1, y1, x2, y2 + 1)]:
                self.assertFalse(Region.of(longer).within(region))


class TestArguments(unittest.TestCase):

    def test_no_regions(self):
        for bad in NO_REGIONS:
            for call in WRONG_CALLS:
                with self.assertRaises(InvalidRegion) as caught:
                    call(bad)
                self.assertIs(caught.exception.value, bad)

    def test_unbounded_regions(self):
        for region in (Region.everything(), ~Region.of((0, 0, 1, 1))):
            for call in WRONG_CALLS:
                with self.assertRaises(Unbounded) as caught:
                    call(region)
                self.assertIs(caught.exception.value, region)

    def test_no_numbers(self):
        for region in (Region.empty(), Region.of((0, 0, 5, 5))):
            for bad in NO_INTEGERS + [-1, -BIG, 25, BIG]:
                with self.assertRaises(InvalidNumber) as caught:
                    nth(region, bad)
                self.assertIs(caught.exception.value, bad)

    def test_no_squares(self):
        for region in (Region.empty(), Region.of((0, 0, 5, 5))):
            for bad in NO_SQUARES:
                with self.assertRaises(InvalidSquare) as caught:
                    rank(region, bad)
                self.assertIs(caught.exception.value, bad)

    def test_greatest_boxes_checks_when_the_iteration_begins(self):
        for bad, error in [([], InvalidRegion), (Region.everything(), Unbounded)]:
            boxes = greatest_boxes(bad)
            with self.assertRaises(error) as caught:
                next(boxes)
            self.assertIs(caught.exception.value, bad)

    def test_arguments_do_not_change(self):
        region = Region.of((0, 0, 4, 2), (2, 0, 4, 5))
        before = repr(region)
        for call in CALLS:
            self.assertEqual(call(region), call(region))
            self.assertEqual(repr(region), before)


if __name__ == "__main__":
    unittest.main()

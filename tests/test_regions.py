"""Stage 1 without the operators: squares, boxes, and what a region tells."""

import enum
import itertools
import random
import unittest
from unittest import mock

from boxregions.errors import InvalidBox, InvalidRegion, InvalidSquare, Unbounded
from boxregions.regions import Region, is_box, is_square, separating
from tests.grids import (
    BIG, NO_BOXES, NO_REGIONS, NO_SQUARES, all_sets, is_form, region_of, squares_of_slabs, window,
)


class TestKinds(unittest.TestCase):

    def test_squares(self):
        for thing in [(0, 0), (-1, 5), (BIG, -BIG), (5, 5), (2, 1)]:
            self.assertIs(is_square(thing), True)
        for thing in NO_SQUARES:
            self.assertIs(is_square(thing), False, thing)

    def test_boxes(self):
        for thing in [(0, 0, 1, 1), (-5, -5, -4, 9), (-BIG, BIG, BIG, BIG + 1)]:
            self.assertIs(is_box(thing), True)
        for thing in NO_BOXES:
            self.assertIs(is_box(thing), False, thing)


class TestExamples(unittest.TestCase):

    def test_example(self):
        one = Region.of((0, 0, 4, 2), (2, 0, 4, 5))
        same = separating(one, one | Region.of((0, 0, 1, 1)))
        got = [one.slabs, (1, 1) in one, (1, 2) in one, list(one.boxes()), one.frame, same]
        self.assertEqual(got, [
            [(0, 2, [(0, 2)]), (2, 4, [(0, 5)])], True, False, [(0, 0, 2, 2), (2, 0, 4, 5)], (0, 0, 4, 5), None,
        ])


class TestMaking(unittest.TestCase):

    def test_empty_and_everything(self):
        for made in (Region.empty(), Region.of()):
            self.assertEqual([made.is_bounded, made.slabs, made.frame, bool(made)], [True, [], None, False])
            self.assertEqual([list(made.boxes()), repr(made), (0, 0) in made], [[], "Region([])", False])
        made = Region.everything()
        self.assertEqual([made.is_bounded, made.slabs, bool(made), repr(made)], [False, [], True, "~Region([])"])
        self.assertIs((0, 0) in made, True)
        self.assertIs((-BIG, BIG) in made, True)

    def test_one_box(self):
        made = Region.of((-3, 5, BIG, BIG + 2))
        self.assertEqual(made.slabs, [(-3, BIG, [(5, BIG + 2)])])
        self.assertEqual(made.frame, (-3, 5, BIG, BIG + 2))
        self.assertIs(made.is_bounded, True)

    def test_touching_boxes_become_one(self):
        whole = [(0, 4, [(0, 4)])]
        self.assertEqual(Region.of((0, 0, 2, 4), (2, 0, 4, 4)).slabs, whole)
        self.assertEqual(Region.of((0, 0, 4, 1), (0, 1, 4, 4)).slabs, whole)
        self.assertEqual(Region.of((0, 0, 2, 2), (2, 2, 4, 4), (0, 2, 2, 4), (2, 0, 4, 2)).slabs, whole)

    def test_boxes_in_one_another_and_overlapping(self):
        self.assertEqual(Region.of((0, 0, 9, 9), (2, 2, 3, 3), (0, 0, 9, 9)).slabs, [(0, 9, [(0, 9)])])
        crossed = Region.of((0, 1, 3, 2), (1, 0, 2, 3))
        self.assertEqual(crossed.slabs, [(0, 1, [(1, 2)]), (1, 2, [(0, 3)]), (2, 3, [(1, 2)])])

    def test_gaps_between_slabs_and_spans(self):
        made = Region.of((5, 0, 6, 1), (0, 0, 1, 1), (0, 2, 1, 3), (1, 1, 2, 2))
        self.assertEqual(made.slabs, [(0, 1, [(0, 1), (2, 3)]), (1, 2, [(1, 2)]), (5, 6, [(0, 1)])])

    def test_boxes_that_touch_by_a_corner(self):
        self.assertEqual(Region.of((0, 0, 1, 1), (1, 1, 2, 2)).slabs, [(0, 1, [(0, 1)]), (1, 2, [(1, 2)])])

    def test_any_order_of_any_boxes_gives_the_same_form(self):
        boxes = [(0, 0, 4, 2), (2, 0, 4, 5), (4, 1, 6, 2), (-1, 4, 3, 5), (3, 4, 4, 6)]
        want = Region.of(*boxes)
        for order in itertools.permutations(boxes):
            self.assertEqual(Region.of(*order).slabs, want.slabs)
        self.assertEqual(squares_of_slabs(want.slabs), {
            (x, y) for x1, y1, x2, y2 in boxes for x in range(x1, x2) for y in range(y1, y2)
        })

    def test_random_boxes(self):
        chance = random.Random(5)
        for many in range(60):
            boxes = []
            for _ in range(many % 12):
                x, y = chance.randrange(-6, 6), chance.randrange(-6, 6)
                boxes.append((x, y, x + chance.randrange(1, 6), y + chance.randrange(1, 6)))
            want = {(x, y) for x1, y1, x2, y2 in boxes for x in range(x1, x2) for y in range(y1, y2)}
            made = Region.of(*boxes)
            self.assertTrue(is_form(made.slabs))
            self.assertEqual(squares_of_slabs(made.slabs), want)
            singles = region_of(chance.sample(sorted(want), len(want)))
            self.assertEqual(singles.slabs, made.slabs)
            self.assertEqual(singles, made)

    def test_many_boxes(self):
        small = [(x, y, x + 2, y + 2) for x in range(0, 60, 2) for y in range(0, 60, 2)]
        self.assertEqual(Region.of(*small).slabs, [(0, 60, [(0, 60)])])

    def test_wrong_boxes(self):
        good = (0, 0, 1, 1)
        for bad in NO_BOXES:
            for boxes in ([bad], [good, bad], [bad, good], [good, good, bad, good]):
                with self.assertRaises(InvalidBox) as caught:
                    Region.of(*boxes)
                self.assertIs(caught.exception.value, bad)

    def test_the_first_wrong_box_is_told(self):
        first, second = [0, 0, 1, 1], (0, 0, 0, 0)
        with self.assertRaises(InvalidBox) as caught:
            Region.of((0, 0, 1, 1), first, second)
        self.assertIs(caught.exception.value, first)

    def test_integers_of_a_class_under_int_are_kept_as_plain_ones(self):
        place = enum.IntEnum("place", {"LOW": 0, "HIGH": 2})
        made = Region.of((place.LOW, place.LOW, place.HIGH, place.HIGH))
        self.assertTrue(is_form(made.slabs))
        self.assertEqual(repr(made), "Region([(0, 2, [(0, 2)])])")


class TestTelling(unittest.TestCase):

    def test_squares_inside_and_outside(self):
        for squares in all_sets(3, 3):
            made = region_of(squares)
            for square in window(3, 3):
                self.assertIs(square in made, square in squares)
                self.assertIs(square in ~made, square not in squares)

    def test_squares_of_regions_with_great_coordinates(self):
        made = Region.of((-BIG, -BIG, BIG, BIG)) - Region.of((BIG - 1, BIG - 2, BIG, BIG - 1))
        for square, inside in [
            ((-BIG, -BIG), True), ((BIG - 1, BIG - 1), True), ((BIG - 1, BIG - 2), False), ((BIG - 1, BIG - 3), True),
            ((BIG, 0), False), ((-BIG - 1, 0), False), ((0, BIG), False), ((0, -BIG - 1), False), ((0, 0), True),
        ]:
            self.assertIs(square in made, inside)
            self.assertIs(square in ~made, not inside)

    def test_what_is_no_square(self):
        for region in (Region.empty(), Region.everything(), Region.of((0, 0, 1, 1)), ~Region.of((0, 0, 1, 1))):
            for bad in NO_SQUARES:
                with self.assertRaises(InvalidSquare) as caught:
                    bad in region
                self.assertIs(caught.exception.value, bad)

    def test_truth(self):
        self.assertIs(bool(Region.of((0, 0, 1, 1))), True)
        self.assertIs(bool(~Region.of((0, 0, 1, 1))), True)
        self.assertIs(bool(Region.everything()), True)
        self.assertIs(bool(Region.empty()), False)
        self.assertIs(bool(Region.of((0, 0, 1, 1)) - Region.everything()), False)

    def test_frame(self):
        self.assertEqual(Region.of((0, 0, 1, 1), (5, -9, 6, -7), (2, 4, 3, 8)).frame, (0, -9, 6, 8))
        self.assertEqual(Region.of((0, 0, 1, 1), (0, 5, BIG, 6), (0, -BIG, 1, -7)).frame, (0, -BIG, BIG, 6))
        for squares in all_sets(3, 3):
            if squares:
                xs, ys = zip(*squares)
                self.assertEqual(region_of(squares).frame, (min(xs), min(ys), max(xs) + 1, max(ys) + 1))

    def test_frame_of_unbounded_regions(self):
        for region in (Region.everything(), ~Region.of((0, 0, 1, 1))):
            with self.assertRaises(Unbounded) as caught:
                region.frame
            self.assertIs(caught.exception.value, region)

    def test_boxes(self):
        made = Region.of((0, 0, 1, 1), (0, 3, 2, 4))
        self.assertEqual(list(made.boxes()), [(0, 0, 1, 1), (0, 3, 1, 4), (1, 3, 2, 4)])
        for squares in all_sets(3, 2):
            made = region_of(squares)
            boxes = list(made.boxes())
            self.assertEqual(boxes, [(x1, y1, x2, y2) for x1, x2, spans in made.slabs for y1, y2 in spans])
            self.assertTrue(all(is_box(box) for box in boxes))
            self.assertEqual(Region.of(*boxes), made)

    def test_boxes_of_unbounded_regions_raise_when_the_iteration_begins(self):
        for region in (Region.everything(), ~Region.of((0, 0, 1, 1))):
            boxes = region.boxes()
            with self.assertRaises(Unbounded) as caught:
                next(boxes)
            self.assertIs(caught.exception.value, region)

    def test_slabs_of_unbounded_regions_are_those_of_the_complement(self):
        made = ~Region.of((0, 0, 2, 1), (1, 0, 2, 3))
        self.assertEqual(made.slabs, [(0, 1, [(0, 1)]), (1, 2, [(0, 3)])])
        self.assertIs(made.is_bounded, False)

    def test_repr(self):
        made = Region.of((0, 0, 2, 1), (0, 3, 2, 4), (-BIG, 0, -5, 1))
        want = "[(-1000000000000000000000000000000, -5, [(0, 1)]), (0, 2, [(0, 1), (3, 4)])]"
        self.assertEqual(repr(made), "Region(" + want + ")")
        self.assertEqual(repr(~made), "~Region(" + want + ")")

    def test_changing_what_was_returned_changes_no_region(self):
        for region in (Region.of((0, 0, 2, 1), (1, 5, 2, 6)), ~Region.of((0, 0, 2, 1), (1, 5, 2, 6))):
            before = repr(region)
            region.slabs.append((7, 8, [(0, 1)]))
            region.slabs[0][2].append((7, 8))
            region.slabs[1][2].clear()
            self.assertEqual(repr(region), before)
            self.assertEqual(region.slabs, [(0, 1, [(0, 1)]), (1, 2, [(0, 1), (5, 6)])])

    def test_regions_share_nothing_that_can_be_changed(self):
        one = Region.of((0, 0, 2, 1))
        other = ~one
        one.slabs[0][2].append((7, 8))
        self.assertEqual(other.slabs, [(0, 2, [(0, 1)])])
        self.assertIsNot(one.slabs, one.slabs)
        self.assertIsNot(one.slabs[0][2], one.slabs[0][2])


class TestEquality(unittest.TestCase):

    def test_equal_exactly_if_the_squares_are(self):
        sets = list(all_sets(2, 3))
        for squares in sets:
            for others in sets:
                one, other = region_of(squares), region_of(others)
                self.assertIs(one == other, squares == others)
                self.assertIs(one != other, squares != others)
                self.assertIs(~one == ~other, squares == others)
                self.assertIs(one == ~other, False)

    def test_equal_to_nothing_else(self):
        region = Region.of((0, 0, 1, 1))
        for thing in NO_REGIONS + [mock.ANY, region.slabs, repr(region)]:
            self.assertIs(region == thing, False)
            self.assertIs(region != thing, True)
        self.assertIs(Region.empty() == None, False)  # noqa: E711
        self.assertIs(Region.empty() == [], False)

    def test_separating(self):
        sets = list(all_sets(2, 3))
        for squares in sets:
            for others in sets:
                for one, other in [
                    (region_of(squares), region_of(others)), (~region_of(squares), ~region_of(others)),
                    (~region_of(squares), region_of(others)), (region_of(squares), ~region_of(others)),
                ]:
                    square = separating(one, other)
                    if one == other:
                        self.assertIsNone(square)
                    else:
                        self.assertIs(is_square(square), True)
                        self.assertIsNot(square in one, square in other)

    def test_separating_at_the_ends(self):
        everything, empty = Region.everything(), Region.empty()
        self.assertIs(is_square(separating(everything, empty)), True)
        self.assertIsNone(separating(everything, ~empty))
        great = Region.of((-BIG, -BIG, BIG, BIG))
        less = great - Region.of((7, 7, 8, 8))
        self.assertEqual(separating(great, less), (7, 7))
        self.assertEqual(separating(~less, ~great), (7, 7))
        square = separating(great, ~less)
        self.assertIsNot(square in great, square in ~less)

    def test_separating_something_else(self):
        region = Region.of((0, 0, 1, 1))
        for bad in NO_REGIONS:
            with self.assertRaises(InvalidRegion) as caught:
                separating(bad, region)
            self.assertIs(caught.exception.value, bad)
            with self.assertRaises(InvalidRegion) as caught:
                separating(region, bad)
            self.assertIs(caught.exception.value, bad)
            with self.assertRaises(InvalidRegion) as caught:
                separating(bad, [])
            self.assertIs(caught.exception.value, bad)
        self.assertEqual(repr(region), "Region([(0, 1, [(0, 1)])])")


if __name__ == "__main__":
    unittest.main()

"""Stage 7: the least growth at which regions meet, become one part and lose their holes."""

import unittest

from boxregions.errors import InvalidRegion, InvalidSquare
from boxregions.growing import around
from boxregions.moves import scaled, shifted
from boxregions.parts import holes, parts
from boxregions.reaches import closing, hole_closing, joining, reach
from boxregions.regions import Region
from tests import search, slow
from tests.grids import BIG, NO_REGIONS, NO_SQUARES

SIDES = (False, True)

# Growing by 1 closes the small hole and the mouth of the hall beside it, which is closed at 2 only.
HALL = slow.drawn("""
    ###.#####
    #.#.#...#
    ###.#...#
    ....#...#
    ....#.###
""")
# One hall behind the other: growing closes a mouth whenever it has filled the hall before.
HALLS = Region.of((0, 0, 100, 40)) - Region.of(
    (1, 1, 2, 2),
    (5, 5, 9, 9), (9, 6, 10, 8), (10, 0, 11, 8),
    (20, 5, 34, 19), (34, 8, 35, 12), (35, 0, 37, 12),
    (50, 3, 90, 36), (90, 10, 91, 20), (91, 0, 99, 20),
)


def grown(region, distance):
    return region + around(distance)


class TestSmallRegions(unittest.TestCase):

    def test_example(self):
        ring = Region.of((0, 0, 10 ** 30, 10 ** 30)) - Region.of((1, 1, 10 ** 30 - 1, 4))
        got = [
            reach(Region.of((0, 0, 1, 1)), Region.of((5, 3, 6, 4))), joining(Region.of((0, 0, 1, 1), (5, 3, 6, 4))),
            hole_closing(ring, (2, 2)),
        ]
        self.assertEqual(got, [5, 2, 2])

    def check(self, squares, flipped):
        region = slow.region_of_pair(squares, flipped)
        self.assertEqual(joining(region), search.joining(squares, flipped))
        self.assertEqual(closing(region), search.closing(squares, flipped))
        inside = slow.holes(squares, flipped, False)
        for hole, _ in inside:
            want = search.hole_closing(squares, flipped, hole)
            for square in hole:
                self.assertEqual(hole_closing(region, square), want)
        in_holes = {square for hole, _ in inside for square in hole}
        for square in slow.around_squares(squares):
            if square not in in_holes:
                with self.assertRaises(InvalidSquare) as caught:
                    hole_closing(region, square)
                self.assertIs(caught.exception.value, square)

    def test_all_small_regions(self):
        for squares, flipped in slow.small_pairs(3, 3):
            self.check(squares, flipped)

    def test_larger_regions(self):
        for squares, flipped in slow.larger_pairs() + [(HALL, False), (HALL, True)]:
            self.check(squares, flipped)

    def test_reach_of_small_regions(self):
        pairs = list(slow.small_pairs(2, 2))
        for one in pairs:
            for other in pairs:
                moved = {(x + 4, y - 3) for x, y in other[0]}, other[1]
                for second in (other, moved):
                    got = reach(slow.region_of_pair(*one), slow.region_of_pair(*second))
                    self.assertEqual(got, search.reach(one, second))

    def test_reach_of_larger_regions(self):
        pairs = slow.larger_pairs()[::3]
        for at, one in enumerate(pairs):
            other = pairs[at - 4]
            for by_x, by_y in [(0, 0), (3, 2), (15, -2), (-2, 13), (-20, -31)]:
                moved = {(x + by_x, y + by_y) for x, y in other[0]}, other[1]
                got = reach(slow.region_of_pair(*one), slow.region_of_pair(*moved))
                self.assertEqual(got, search.reach(one, moved))

    def test_reach_within_holes(self):
        for squares in (slow.NESTED, HALL):
            region = slow.region_of_pair(squares, False)
            for square in slow.around_squares(squares):
                single = Region.of((square[0], square[1], square[0] + 1, square[1] + 1))
                self.assertEqual(reach(region, single), search.reach((squares, False), ({square}, False)))
                self.assertEqual(reach(single, ~region), search.reach(({square}, False), (squares, True)))

    def test_empty_and_everything(self):
        empty, everything, one = Region.empty(), Region.everything(), Region.of((0, 0, 1, 1))
        self.assertEqual([joining(empty), closing(empty), joining(everything), closing(everything)], [0, 0, 0, 0])
        for region in (empty, everything, one, ~one):
            self.assertIsNone(reach(empty, region))
            self.assertIsNone(reach(region, empty))
        for region in (everything, one, ~one):
            self.assertEqual([reach(everything, region), reach(region, everything), reach(region, region)], [0, 0, 0])
        self.assertEqual([reach(one, ~one), reach(~one, one)], [1, 1])

    def test_the_distance_is_0(self):
        block = Region.of((0, 0, 9, 9))
        touching = Region.of((0, 0, 2, 2), (2, 2, 4, 4))
        self.assertEqual([joining(block), closing(block), joining(touching), closing(touching)], [0, 0, 0, 0])
        self.assertEqual([joining(~block), closing(~block), closing(~touching)], [0, 5, 1])
        # A mouth at a corner is open: holes are joined by corners, too.
        mouth = Region.of((0, 0, 3, 3)) - Region.of((1, 1, 2, 2), (2, 2, 3, 3))
        self.assertEqual([closing(mouth), closing(mouth | Region.of((2, 2, 3, 3)))], [0, 1])

    def test_growing_makes_holes(self):
        cup = Region.of((0, 0, 9, 9)) - Region.of((1, 1, 8, 8), (8, 4, 9, 5))
        self.assertEqual([closing(cup), len(holes(grown(cup, 1)))], [0, 1])
        hall = slow.region_of_pair(HALL, False)
        self.assertEqual([closing(hall), hole_closing(hall, (1, 3))], [2, 1])
        # The square is in a hole of the grown region only.
        with self.assertRaises(InvalidSquare):
            hole_closing(hall, (6, 2))

    def test_growing_makes_holes_again_and_again(self):
        distances = [len(holes(grown(HALLS, distance))) for distance in range(25)]
        first = distances.index(0)
        self.assertEqual(closing(HALLS), first)
        self.assertGreater(first, 3)
        self.assertGreater(len(set(distances[:first])), 1)


class TestGreatNumbers(unittest.TestCase):

    def check(self, region):
        distance = joining(region)
        self.assertLessEqual(len(parts(grown(region, distance), corners=True)), 1)
        if distance:
            self.assertGreater(len(parts(grown(region, distance - 1), corners=True)), 1)
        distance = closing(region)
        self.assertEqual(holes(grown(region, distance)), [])
        if distance:
            for less in (1, distance // 2 + 1, distance):
                self.assertNotEqual(holes(grown(region, distance - less)), [])
        for hole in holes(region):
            square = max(hole.boxes())[:2]
            distance = hole_closing(region, square)
            self.assertTrue(hole.within(grown(region, distance)))
            self.assertFalse(hole.within(grown(region, distance - 1)))

    def test_stretched_regions(self):
        for squares, flipped in slow.larger_pairs() + [(HALL, False), (HALL, True)]:
            self.check(slow.stretched(squares, flipped))

    def test_each_growth_before_has_a_hole(self):
        # All distances at which anything changes are half a difference of two numbers of the form.
        region = scaled(HALLS, 10 ** 28 + 1)
        places = {end for x1, x2, spans in region.slabs for end in (x1, x2, *[y for span in spans for y in span])}
        halves = {abs(one - other) // 2 + step for one in places for other in places for step in (-1, 0, 1)}
        distance = closing(region)
        self.assertGreater(distance, 10 ** 28)
        for less in sorted(halves):
            if 0 <= less < distance:
                self.assertNotEqual(holes(grown(region, less)), [])
        self.assertEqual(holes(grown(region, distance)), [])

    def check_reach(self, one, other):
        distance = reach(one, other)
        self.assertEqual(distance, reach(other, one))
        self.assertTrue(grown(one, distance) & other)
        if distance:
            self.assertFalse(grown(one, distance - 1) & other)
        return distance

    def test_reach(self):
        pairs = slow.larger_pairs()[2:40]
        for at, one in enumerate(pairs):
            first, second = slow.stretched(*one), slow.stretched(*pairs[at - 5])
            if first and second:
                self.check_reach(first, second)
                self.check_reach(first, shifted(second, 40 * BIG, -3))
                self.check_reach(first, shifted(second, -17 * BIG, 50 * BIG + 1))
        ring = Region.of((-BIG, -BIG, BIG, BIG)) - Region.of((1 - BIG, 1 - BIG, BIG - 1, BIG - 1))
        self.assertEqual(self.check_reach(ring, Region.of((0, 0, 1, 1))), BIG - 1)
        self.assertEqual(self.check_reach(~Region.of((-BIG, -BIG, BIG, BIG)), Region.of((5, 0, 6, 1))), BIG - 5)
        self.assertEqual(self.check_reach(Region.of((0, 0, 1, 1)), Region.of((BIG, 7, BIG + 1, 8))), BIG)

    def test_a_hundred_spans(self):
        many = Region.of(*[(k * BIG, k % 7 * BIG, k * BIG + 5, k % 7 * BIG + 5) for k in range(100)])
        self.check(many)
        self.check(~many)
        self.assertEqual(closing(~many), 3)
        self.check_reach(many, Region.of((99 * BIG, 9 * BIG, 99 * BIG + 1, 10 * BIG)))
        lattice = Region.of((0, 0, 21 * BIG, 21 * BIG)) - Region.of(*[
            (2 * i * BIG + 5, 2 * j * BIG + 5, 2 * i * BIG + 9, 2 * j * BIG + 8 + j) for i in range(7) for j in range(7)
        ])
        self.check(lattice)
        self.check(~lattice)
        self.assertEqual([closing(lattice), joining(lattice)], [2, 0])


class TestArguments(unittest.TestCase):

    def test_no_regions(self):
        one = Region.of((0, 0, 1, 1))
        for bad in NO_REGIONS:
            for call in (
                joining, closing, lambda bad: reach(bad, one), lambda bad: reach(one, bad), lambda bad: reach(bad, None),
                lambda bad: reach(Region.empty(), bad), lambda bad: hole_closing(bad, (0, 0)), lambda bad: hole_closing(bad, 0),
            ):
                with self.assertRaises(InvalidRegion) as caught:
                    call(bad)
                self.assertIs(caught.exception.value, bad)

    def test_no_squares(self):
        ring = Region.of((0, 0, 3, 3)) - Region.of((1, 1, 2, 2))
        for region in (Region.empty(), Region.everything(), ring, ~ring):
            for bad in NO_SQUARES + [(BIG, BIG), (0, 0)]:
                if bad == (0, 0) and region == ~ring:
                    continue
                with self.assertRaises(InvalidSquare) as caught:
                    hole_closing(region, bad)
                self.assertIs(caught.exception.value, bad)
        self.assertEqual([hole_closing(ring, (1, 1)), hole_closing(~ring, (0, 0))], [1, 1])

    def test_arguments_do_not_change(self):
        for flipped in SIDES:
            region = slow.region_of_pair(slow.NESTED, flipped)
            before = repr(region)
            for _ in range(2):
                got = [joining(region), closing(region), reach(region, ~region)]
                self.assertEqual(got, [1, 1, 1])
            self.assertEqual(repr(region), before)


if __name__ == "__main__":
    unittest.main()

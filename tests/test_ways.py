"""Stage 9: shortest ways inside regions."""

import random
import unittest

from boxregions.errors import InvalidRegion, InvalidSquare
from boxregions.regions import Region
from boxregions.ways import is_way, way, way_length
from tests import search, slow
from tests.changes import changed
from tests.grids import BIG, NO_REGIONS, NO_SQUARES

MAZE = slow.drawn("""
    ###########
    #.........#
    #.#######.#
    #.#.....#.#
    #.#.###.#.#
    #.#.#.#.#.#
    #.#.#...#.#
    #.#.#####.#
    #.#.......#
    #.#########
    #.#.......#
""")
CALLS = [way_length, way, lambda region, start, goal: is_way(region, start, goal, None)]


def length_of(squares):
    return sum(abs(x - a) + abs(y - b) for (x, y), (a, b) in zip(squares, squares[1:]))


def all_squares(squares):
    """Returns all squares along a list of squares with short distances."""
    found = [squares[0]]
    for a, b in squares[1:]:
        while found[-1] != (a, b):
            x, y = found[-1]
            found.append((x + (a > x) - (a < x), y + (b > y) - (b < y)))
    return found


class TestSmallRegions(unittest.TestCase):

    def test_example(self):
        wall = ~Region.of((0, -10 ** 30, 1, 10 ** 30))
        got = [way_length(wall, (-1, 0), (1, 0)), way(Region.of((0, 0, 3, 1), (2, 0, 3, 4)), (0, 0), (2, 3))]
        self.assertEqual(got, [2000000000000000000000000000002, [(0, 0), (2, 0), (2, 3)]])

    def check(self, squares, flipped, starts=None):
        """Checks the ways from some squares, or all, of a window to all others."""
        region = slow.region_of_pair(squares, flipped)
        inside = [square for square in slow.around_squares(squares) if (square in squares) != flipped]
        for start in inside if starts is None else [square for square in starts if square in inside]:
            lengths = search.way_lengths(squares, flipped, start)
            for goal in inside:
                found = way(region, start, goal)
                self.assertEqual(way_length(region, start, goal), lengths.get(goal))
                if goal not in lengths:
                    self.assertIsNone(found)
                    self.assertIs(is_way(region, start, goal, None), False)
                    self.assertIs(is_way(region, start, goal, [start, goal]), False)
                    continue
                walked = all_squares(found)
                self.assertEqual([found[0], found[-1]], [start, goal])
                self.assertEqual(len(walked) - 1, lengths[goal])
                self.assertTrue(all((square in squares) != flipped for square in walked))
                self.assertTrue(all((x == a) != (y == b) for (x, y), (a, b) in zip(found, found[1:])))
                self.assertIs(is_way(region, start, goal, found), True)
                self.assertIs(is_way(region, start, goal, walked), True)

    def test_all_small_regions(self):
        for squares, flipped in slow.small_pairs(3, 3):
            self.check(squares, flipped, [(0, 0), (1, 1), (0, 2), (2, 1)])
        for squares, flipped in slow.small_pairs(2, 3):
            self.check(squares, flipped)

    def test_larger_regions(self):
        for squares, flipped in slow.larger_pairs():
            self.check(squares, flipped, [(0, 0), (3, 2)])
        for flipped in (False, True):
            self.check(MAZE, flipped, [(1, 0), (3, 0), (5, 5), (10, 10), (-1, -1)])

    def test_from_a_square_to_itself(self):
        for region in (Region.everything(), Region.of((3, 4, 4, 5)), slow.region_of_pair(slow.COMB, True)):
            for square in [(3, 4), (BIG, -BIG)]:
                if square in region:
                    self.assertEqual(way(region, square, square), [square])
                    self.assertEqual(way_length(region, square, square), 0)
                    self.assertIs(is_way(region, square, square, [square]), True)
                    for thing in ([], [square, square], [square, (9, 9), square], (square,), square, None):
                        self.assertIs(is_way(region, square, square, thing), False)

    def test_between_parts(self):
        touching = Region.of((0, 0, 2, 2), (2, 2, 4, 4))
        self.assertIsNone(way(touching, (1, 1), (2, 2)))
        self.assertIsNone(way_length(touching, (1, 1), (2, 2)))
        self.assertIs(is_way(touching, (1, 1), (2, 2), [(1, 1), (1, 2), (2, 2)]), False)
        self.assertEqual(way_length(~touching, (1, 2), (2, 1)), 10)
        ring = Region.of((0, 0, 9, 9)) - Region.of((1, 1, 8, 8))
        self.assertIsNone(way(~ring, (4, 4), (20, 4)))
        self.assertIsNone(way(~ring, (-1, 4), (4, 4)))
        self.assertEqual(way_length(ring, (0, 4), (8, 4)), 16)

    def test_squares_in_line_are_left_out(self):
        comb = Region.of((0, 0, 9, 1), (2, 0, 3, 5), (5, 0, 6, 5))
        self.assertEqual(way(comb, (0, 0), (8, 0)), [(0, 0), (8, 0)])
        self.assertEqual(way(comb, (2, 4), (8, 0)), [(2, 4), (2, 0), (8, 0)])
        self.assertEqual(way(comb, (2, 4), (5, 4)), [(2, 4), (2, 0), (5, 0), (5, 4)])

    def test_everything(self):
        self.assertEqual(way_length(Region.everything(), (0, 0), (-BIG, BIG)), 2 * BIG)
        self.assertEqual(len(way(Region.everything(), (0, 0), (-BIG, BIG))), 3)
        self.assertEqual(way(Region.everything(), (0, 5), (-BIG, 5)), [(0, 5), (-BIG, 5)])


class TestGreatNumbers(unittest.TestCase):

    def check(self, region, start, goal):
        length, found = way_length(region, start, goal), way(region, start, goal)
        self.assertEqual(length, search.great_way_length(region, start, goal))
        self.assertEqual(way_length(region, goal, start), length)
        self.assertIs(is_way(region, start, goal, found), found is not None)
        if found is None:
            self.assertIsNone(length)
        else:
            self.assertEqual([found[0], found[-1], length_of(found)], [start, goal, length])
            for (x, y), (a, b) in zip(found, found[1:]):
                self.assertNotEqual(x == a, y == b)
                self.assertTrue(Region.of((min(x, a), min(y, b), max(x, a) + 1, max(y, b) + 1)).within(region))
            self.assertIs(is_way(region, goal, start, found[::-1]), True)
        return length

    def test_stretched_regions(self):
        chance = random.Random(2)
        many = 0
        for squares, flipped in slow.larger_pairs()[2:60:2] + slow.larger_pairs()[3:60:6] + [(MAZE, False), (MAZE, True)]:
            region = slow.stretched(squares, flipped)
            places = [
                (chance.choice((x1, (x1 + x2) // 2, x2 - 1)), chance.choice((y1, (y1 + y2) // 2, y2 - 1)))
                for x1, y1, x2, y2 in [slow.stretch_square((x, y)) for x in range(12) for y in range(12)]
            ]
            inside = [square for square in places if square in region]
            for _ in range(4):
                many += self.check(region, chance.choice(inside), chance.choice(inside)) is not None
        self.assertGreater(many, 60)

    def test_around_walls(self):
        wall = ~Region.of((0, -BIG, 1, BIG + 5), (0, BIG + 4, 3 * BIG, BIG + 5))
        self.assertEqual(self.check(wall, (-1, 7), (1, 7)), 2 * BIG + 18)
        self.assertEqual(self.check(wall, (2 * BIG, BIG + 5), (2 * BIG, BIG + 3)), 2 * BIG + 2)
        self.assertEqual(self.check(wall, (1, BIG + 3), (-1, BIG + 4)), 4 * BIG + 11)
        self.assertEqual(self.check(wall, (1, -BIG), (3 * BIG, BIG + 5)), 3 * BIG - 1 + 2 * BIG + 5)

    def test_a_hundred_spans(self):
        boxes = []
        for k in range(50):
            y = (2 * BIG - 1) * (k % 2)
            boxes.extend([(2 * k * BIG, 0, 2 * k * BIG + 1, 2 * BIG), (2 * k * BIG, y, 2 * (k + 1) * BIG + 1, y + 1)])
        coils = Region.of(*boxes)
        start, goal = (0, 2 * BIG - 1), (100 * BIG, 2 * BIG - 1)
        self.assertEqual(way_length(coils, start, goal), 100 * BIG + 50 * (2 * BIG - 1))
        found = way(coils, start, goal)
        self.assertEqual([len(found), length_of(found)], [101, way_length(coils, start, goal)])
        self.assertIs(is_way(coils, start, goal, found), True)
        self.assertEqual(way_length(~coils, (1, 1), (2 * BIG + 1, 1)), 6 * BIG + 6)
        many = ~Region.of(*[(k * BIG, k % 7 * BIG, k * BIG + 5, k % 7 * BIG + 5) for k in range(100)])
        self.check(many, (-1, 0), (99 * BIG + 5, BIG))


class TestIsWay(unittest.TestCase):

    def test_values_changed_at_one_place(self):
        for region, start, goal in [
            (slow.region_of_pair(MAZE, False), (0, 0), (4, 5)), (Region.of((0, 0, 3, 1), (2, 0, 3, 4)), (0, 0), (2, 3)),
            (~Region.of((0, -BIG, 1, BIG)), (-1, 5), (1, 5)), (Region.of((0, 0, 1, 1)), (0, 0), (0, 0)),
        ]:
            found = way(region, start, goal)
            self.assertIs(is_way(region, start, goal, found), True)
            for thing in changed(found):
                # What is drawn here has no square in line, so none can be left out.
                self.assertIs(is_way(region, start, goal, thing), False, thing)

    def test_other_ways(self):
        block = Region.of((0, 0, 4, 4))
        for thing in [
            [(0, 0), (3, 0), (3, 2)], [(0, 0), (0, 2), (3, 2)], [(0, 0), (1, 0), (2, 0), (2, 1), (2, 2), (3, 2)],
            [(0, 0), (1, 0), (1, 1), (2, 1), (2, 2), (3, 2)], [(0, 0), (0, 1), (3, 1), (3, 2)],
        ]:
            self.assertIs(is_way(block, (0, 0), (3, 2), thing), True)
            self.assertIs(is_way(block, (3, 2), (0, 0), thing[::-1]), True)
            self.assertIs(is_way(block, (3, 2), (0, 0), thing), False)
            self.assertIs(is_way(block, (0, 0), (3, 2), tuple(thing)), False)
        for thing in [
            [(0, 0), (3, 2)], [(0, 0), (1, 1), (3, 1), (3, 2)], [(0, 0), (3, 0)], [(3, 0), (3, 2)], [(3, 2)], [(0, 0)], [],
            [(0, 0), (0, 3), (3, 3), (3, 2)], [(0, 0), (2, 0), (1, 0), (3, 0), (3, 2)], [(0, 0), (0, 0), (3, 0), (3, 2)],
            [(0, 0), (3, 0), (3, 2), (3, 2)], [(0, 0), (3, 0), (3, 3), (3, 2)], [[0, 0], [3, 0], [3, 2]],
            [(0, 0), (2, 0), (2, 3)], [(1, 1), (1, 3), (3, 3), (3, 2)],
        ]:
            self.assertIs(is_way(block, (0, 0), (3, 2), thing), False, thing)
        notched = block - Region.of((1, 0, 2, 1))
        self.assertIs(is_way(notched, (0, 0), (3, 2), [(0, 0), (3, 0), (3, 2)]), False)
        self.assertIs(is_way(notched, (0, 0), (3, 2), [(0, 0), (0, 1), (3, 1), (3, 2)]), True)
        self.assertIs(is_way(~Region.of((1, 0, 2, 1)), (0, 0), (2, 0), [(0, 0), (2, 0)]), False)
        self.assertIs(is_way(~Region.of((1, 0, 2, 1)), (0, 0), (2, 0), [(0, 0), (0, 1), (2, 1), (2, 0)]), True)

    def test_values_of_other_kinds(self):
        block = Region.of((0, 0, 4, 4))
        for thing in NO_REGIONS + NO_SQUARES + [[None], [(0, 0), None, (1, 0)], [True], "ab", [(0, 0), (True, 0)], block]:
            self.assertIs(is_way(block, (0, 0), (1, 0), thing), False)
        for bad in NO_SQUARES:
            self.assertIs(is_way(block, (0, 0), (1, 0), [(0, 0), bad, (1, 0)]), False)
        self.assertIs(is_way(block, (0, 0), (1, 0), [(0, 0), (1, 0)]), True)


class TestArguments(unittest.TestCase):

    def test_no_regions(self):
        for bad in NO_REGIONS:
            for start, goal in [((0, 0), (0, 0)), (None, (0, 0)), ((0, 0), None), (1, 2)]:
                for call in CALLS:
                    with self.assertRaises(InvalidRegion) as caught:
                        call(bad, start, goal)
                    self.assertIs(caught.exception.value, bad)

    def test_no_squares_of_the_region(self):
        for region, inside in [(Region.of((0, 0, 2, 1)), (1, 0)), (~Region.of((5, 5, 6, 6)), (BIG, BIG))]:
            for bad in NO_SQUARES + [(5, 5)]:
                for start, goal in [(bad, inside), (inside, bad), (bad, (5, 5)), (bad, None), (bad, bad)]:
                    for call in CALLS:
                        with self.assertRaises(InvalidSquare) as caught:
                            call(region, start, goal)
                        self.assertIs(caught.exception.value, bad)
        for call in CALLS:
            with self.assertRaises(InvalidSquare) as caught:
                call(Region.empty(), (0, 0), None)
            self.assertEqual(caught.exception.value, (0, 0))

    def test_arguments_do_not_change_and_results_are_new(self):
        region = slow.region_of_pair(MAZE, False)
        before = repr(region)
        want = way(region, (0, 0), (4, 5))
        way(region, (0, 0), (4, 5)).clear()
        self.assertEqual(way(region, (0, 0), (4, 5)), want)
        told = repr(want)
        self.assertIs(is_way(region, (0, 0), (4, 5), want), True)
        self.assertEqual([repr(want), repr(region)], [told, before])


if __name__ == "__main__":
    unittest.main()

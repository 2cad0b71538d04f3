"""Stage 6: border lengths, loops, and regions made of loops."""

import copy
import itertools
import random
import unittest

from boxregions.borders import border_length, from_loops, loop_area, loops
from boxregions.counting import count
from boxregions.errors import InvalidLoops, InvalidRegion
from boxregions.parts import corner_counts
from boxregions.regions import Region
from tests import slow
from tests.grids import BIG, NO_REGIONS, NO_SQUARES

SQUARE = [(0, 0), (2, 0), (2, 2), (0, 2)]

# Values that are no lists of points at all.
NO_POINTS = [
    None, 0, True, "ab", b"ab", (), {}, {1}, object(), Region.empty(), Region.of((0, 0, 1, 1)), tuple(SQUARE),
    {(0, 0): (1, 1)}, [SQUARE], [[0, 0], [2, 0], [2, 2], [0, 2]], [(0, 0), (2, 0), (2, 2), [0, 2]], [None],
]


def measured_border(region, squares):
    """Returns the border length of a stretched region, by the lengths of the edges of its small squares."""
    total = 0
    for square in squares:
        x1, y1, x2, y2 = slow.stretch_square(square)
        for u, v in slow.EDGES:
            if (square[0] + u, square[1] + v) not in squares:
                total += y2 - y1 if u else x2 - x1
    return total


class TestSmallRegions(unittest.TestCase):

    def test_example(self):
        one = Region.of((0, 0, 1, 1), (1, 1, 2, 2))
        got = [border_length(one), loops(one), from_loops(loops(~one)) == ~one, loop_area(loops(one)[0])]
        self.assertEqual(got, [8, [[(0, 0), (1, 0), (1, 1), (0, 1)], [(1, 1), (2, 1), (2, 2), (1, 2)]], True, 1])

    def check(self, squares, flipped):
        region = slow.region_of_pair(squares, flipped)
        found = loops(region)
        self.assertEqual(found, slow.loops(squares, flipped))
        self.assertEqual(border_length(region), slow.border_length(squares))
        self.assertEqual(sum(loop_area(loop) for loop in found), -len(squares) if flipped else len(squares))
        convex, reflex, touching = corner_counts(region)
        self.assertEqual(sum(len(loop) for loop in found), convex + reflex + 2 * touching)
        if squares or not flipped:
            self.assertEqual(from_loops(found), region)
        else:
            self.assertEqual(from_loops(found), Region.empty())

    def test_all_small_regions(self):
        for squares, flipped in slow.small_pairs(3, 3):
            self.check(squares, flipped)

    def test_larger_regions(self):
        for squares, flipped in slow.larger_pairs():
            self.check(squares, flipped)

    def test_which_side_the_region_is_on(self):
        one = Region.of((0, 0, 2, 1))
        self.assertEqual(loops(one), [[(0, 0), (2, 0), (2, 1), (0, 1)]])
        self.assertEqual(loops(~one), [[(0, 0), (0, 1), (2, 1), (2, 0)]])
        self.assertEqual([loop_area(loops(one)[0]), loop_area(loops(~one)[0])], [2, -2])

    def test_left_turns_where_squares_touch(self):
        rising, falling = Region.of((0, 0, 1, 1), (1, 1, 2, 2)), Region.of((0, 1, 1, 2), (1, 0, 2, 1))
        self.assertEqual(loops(~rising), [[(0, 0), (0, 1), (1, 1), (1, 2), (2, 2), (2, 1), (1, 1), (1, 0)]])
        self.assertEqual(loops(falling), [[(0, 1), (1, 1), (1, 2), (0, 2)], [(1, 0), (2, 0), (2, 1), (1, 1)]])
        self.assertEqual(loops(~falling), [[(0, 1), (0, 2), (1, 2), (1, 1), (2, 1), (2, 0), (1, 0), (1, 1)]])

    def test_no_points_where_slabs_go_straight_on(self):
        region = Region.of((0, 0, 2, 3), (2, 0, 4, 2), (4, 0, 6, 3))
        self.assertEqual(loops(region), [[(0, 0), (6, 0), (6, 3), (4, 3), (4, 2), (2, 2), (2, 3), (0, 3)]])

    def test_nothing(self):
        for region in (Region.empty(), Region.everything()):
            self.assertEqual([border_length(region), loops(region)], [0, []])
        self.assertEqual(from_loops([]), Region.empty())
        self.assertEqual(loop_area([]), 0)


class TestFromLoops(unittest.TestCase):

    def test_any_order_and_any_beginning(self):
        chance = random.Random(3)
        for squares, flipped in slow.larger_pairs():
            if squares:
                region = slow.region_of_pair(squares, flipped)
                found = loops(region)
                for _ in range(3):
                    mixed = chance.sample(found, len(found))
                    for k, loop in enumerate(mixed):
                        at = chance.randrange(len(loop))
                        mixed[k] = loop[at:] + loop[:at]
                    self.assertEqual(from_loops(mixed), region)

    def test_every_beginning(self):
        for squares, flipped in slow.small_pairs(2, 3):
            region = slow.region_of_pair(squares, flipped)
            found = loops(region)
            for k, loop in enumerate(found):
                for at in range(len(loop)):
                    self.assertEqual(from_loops(found[:k] + [loop[at:] + loop[:at]] + found[k + 1:]), region)

    def changed(self, found, points):
        """Yields lists that are, mostly, not the loops of a region."""
        yield found + found
        yield [loop for loop in found for _ in range(2)]
        yield [loop[::-1] for loop in found]
        yield [point for loop in found for point in loop]
        yield [[point for loop in found for point in loop]]
        yield found + [[]]
        for k, loop in enumerate(found):
            rest = found[:k] + found[k + 1:]
            yield rest
            yield rest + [loop[::-1]]
            yield rest + [loop + loop]
            yield rest + [loop, [(0, 0), (1, 0), (1, 1), (0, 1)]]
            yield rest + [loop, [(1, 1), (1, 2), (2, 2), (2, 1)]]
            for at in range(len(loop)):
                yield rest + [loop[:at] + loop[at + 1:]]
                yield rest + [loop[:at] + [loop[at]] + loop[at:]]
                yield rest + [loop[:at] + [loop[at - 1], loop[at]] + loop[at:]]
                for point in points:
                    yield rest + [loop[:at] + [point] + loop[at + 1:]]
                    yield rest + [loop[:at] + [point] + loop[at:]]

    def test_changed_loops(self):
        known = {}
        for squares, flipped in slow.small_pairs(3, 3):
            if squares or not flipped:
                known[repr(slow.loops(squares, flipped))] = slow.region_of_pair(squares, flipped)
        points = list(itertools.product(range(4), repeat=2))
        some = [pair for at, pair in enumerate(slow.small_pairs(3, 3)) if at % 23 == 0 or len(pair[0]) == 8]
        wrong = right = 0
        for squares, flipped in some:
            for made in self.changed(slow.loops(squares, flipped), points):
                whole = all(isinstance(loop, list) and loop for loop in made)
                want = known.get(repr(sorted(slow.from_smallest(loop) for loop in made))) if whole else None
                if want is None:
                    wrong += 1
                    self.check_wrong(made)
                else:
                    right += 1
                    self.assertEqual(from_loops(made), want)
        self.assertGreater(wrong, 1000)
        self.assertGreater(right, 100)

    def check_wrong(self, thing):
        before = repr(thing)
        with self.assertRaises(InvalidLoops) as caught:
            from_loops(thing)
        self.assertIs(caught.exception.value, thing)
        self.assertEqual(repr(thing), before)

    def test_lists_that_are_no_loops(self):
        ring = loops(Region.of((0, 0, 6, 6)) - Region.of((2, 2, 4, 4)))
        for thing in [
            [[]], [[], []], [SQUARE, []], [[(0, 0)]], [[(0, 0), (5, 0)]], [[(0, 0), (5, 0), (0, 0), (5, 0)]],
            [[(0, 0), (1, 1), (2, 0)]], [[(0, 0), (2, 0), (2, 2)]],
            # A point in the middle of a side, one at a corner twice, a walk that goes back and forth.
            [[(0, 0), (1, 0), (2, 0), (2, 2), (0, 2)]], [[(0, 0), (0, 0), (2, 0), (2, 2), (0, 2)]],
            [[(0, 0), (3, 0), (2, 0), (2, 2), (0, 2)]],
            # Loops that cross, lie on each other, lie in each other both with the region inside, or share a side.
            [SQUARE, [(1, 1), (3, 1), (3, 3), (1, 3)]], [SQUARE, SQUARE], [SQUARE, SQUARE[::-1]],
            [[(0, 0), (6, 0), (6, 6), (0, 6)], [(2, 2), (4, 2), (4, 4), (2, 4)]],
            [SQUARE, [(2, 0), (4, 0), (4, 2), (2, 2)]],
            [ring[0], ring[1][::-1]], [ring[0][::-1], ring[1]], [ring[0] + ring[1]],
            # One turns right where the squares touch, in the first one; two loops that are one, in the second.
            [[(0, 0), (1, 0), (1, 1), (2, 1), (2, 2), (1, 2), (1, 1), (0, 1)]],
            [[(0, 0), (0, 1), (1, 1), (1, 0)], [(1, 1), (1, 2), (2, 2), (2, 1)]],
        ]:
            self.check_wrong(thing)

    def test_other_kinds(self):
        for bad in NO_POINTS:
            self.check_wrong([bad])
            self.check_wrong([SQUARE, bad])
            self.check_wrong([bad, SQUARE])
            if bad != [SQUARE]:
                self.check_wrong(bad)
        for bad in NO_SQUARES:
            self.check_wrong([[(0, 0), (2, 0), bad, (0, 2)]])
        for bad in [SQUARE, (SQUARE,), {0: SQUARE}, [tuple(SQUARE)], [[SQUARE]], [[SQUARE, SQUARE]]]:
            self.check_wrong(bad)
        self.check_wrong([[(False, 0), (1, 0), (1, 1), (0, 1)]])
        self.check_wrong([[(0, 0), (1.0, 0), (1, 1), (0, 1)]])
        within_itself = []
        within_itself.append(within_itself)
        with self.assertRaises(InvalidLoops) as caught:
            from_loops(within_itself)
        self.assertIs(caught.exception.value, within_itself)


class TestLoopArea(unittest.TestCase):

    def test_any_walks(self):
        for walk, area in [
            (SQUARE, 4), (SQUARE[::-1], -4), (SQUARE[2:] + SQUARE[:2], 4), (SQUARE + SQUARE, 8), ([(5, 7)], 0),
            ([(5, 7), (5, 9)], 0), ([(0, 0), (1, 0), (2, 0), (2, 2), (2, 2), (0, 2)], 4),
            ([(0, 0), (2, 0), (2, 2), (4, 2), (4, 4), (2, 4), (2, 2), (0, 2)], 8),
            ([(0, 0), (2, 0), (2, 4), (4, 4), (4, 2), (0, 2)], 0),
            ([(-BIG, -BIG), (BIG, -BIG), (BIG, BIG), (-BIG, BIG)], 4 * BIG * BIG),
        ]:
            before = list(walk)
            self.assertEqual(loop_area(walk), area)
            self.assertIs(type(loop_area(walk)), int)
            self.assertEqual(walk, before)

    def test_what_is_no_walk(self):
        wrong = NO_POINTS + [
            [(0, 0), (1, 1)], [(0, 0), (2, 0), (2, 2)], [(0, 0), (2, 0), (3, 1), (0, 1)], [(0, 0), (0, 1), (1, 2), (1, 0)],
        ] + [[(0, 0), (2, 0), bad, (0, 2)] for bad in NO_SQUARES]
        for bad in wrong:
            with self.assertRaises(InvalidLoops) as caught:
                loop_area(bad)
            self.assertIs(caught.exception.value, bad)


class TestGreatNumbers(unittest.TestCase):

    def test_stretched_regions(self):
        for squares in (slow.NESTED, slow.CHESS, slow.COMB, slow.STEPS, slow.CHAIN, slow.SIDE_BY_SIDE):
            for flipped in (False, True):
                region = slow.stretched(squares, flipped)
                want = [[slow.stretch_point(point) for point in loop] for loop in slow.loops(squares, flipped)]
                self.assertEqual(loops(region), want)
                self.assertEqual(from_loops(want[::-1]), region)
                self.assertEqual(border_length(region), measured_border(region, squares))
                size = count(~region if flipped else region)
                self.assertEqual(sum(loop_area(loop) for loop in want), -size if flipped else size)
                moved = copy.deepcopy(want)
                moved[-1][0] = (moved[-1][0][0], moved[-1][0][1] + 1)
                with self.assertRaises(InvalidLoops) as caught:
                    from_loops(moved)
                self.assertIs(caught.exception.value, moved)

    def test_a_hundred_spans(self):
        chain = Region.of(*[(k * BIG, k * BIG, (k + 1) * BIG, (k + 1) * BIG) for k in range(100)])
        self.assertEqual([len(loops(chain)), len(loops(~chain)), border_length(chain)], [100, 1, 400 * BIG])
        self.assertEqual([from_loops(loops(chain)), from_loops(loops(~chain))], [chain, ~chain])
        self.assertEqual(loops(chain)[7], [
            (7 * BIG, 7 * BIG), (8 * BIG, 7 * BIG), (8 * BIG, 8 * BIG), (7 * BIG, 8 * BIG),
        ])
        with self.assertRaises(InvalidLoops):
            from_loops(loops(chain) + loops(~chain))


class TestArguments(unittest.TestCase):

    def test_no_regions(self):
        for bad in NO_REGIONS:
            for call in (border_length, loops):
                with self.assertRaises(InvalidRegion) as caught:
                    call(bad)
                self.assertIs(caught.exception.value, bad)

    def test_arguments_do_not_change_and_lists_are_new(self):
        for flipped in (False, True):
            region = slow.region_of_pair(slow.NESTED, flipped)
            before, found = repr(region), loops(region)
            want = copy.deepcopy(found)
            self.assertEqual(from_loops(found), region)
            self.assertEqual(found, want)
            for loop in found:
                loop.clear()
            found.clear()
            self.assertEqual(loops(region), want)
            border_length(region)
            self.assertEqual(repr(region), before)

    def test_what_is_made_of_loops_keeps_none_of_them(self):
        given = [list(SQUARE)]
        region = from_loops(given)
        given[0][0] = (7, 7)
        given.clear()
        self.assertEqual(region, Region.of((0, 0, 2, 2)))


if __name__ == "__main__":
    unittest.main()

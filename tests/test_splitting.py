"""Stage 8: chords, and the fewest boxes without common squares."""

import itertools
import random
import unittest

from boxregions.counting import count
from boxregions.errors import InvalidRegion, Unbounded
from boxregions.parts import corner_counts, holes, parts
from boxregions.regions import Region
from boxregions.splitting import chords, fewest, is_split, split
from tests import search, slow
from tests.changes import changed
from tests.grids import BIG, NO_REGIONS, all_sets, region_of

PLUS = Region.of((1, 0, 2, 3), (0, 1, 3, 2))
# Level chords in one line, an upright one that ends where a level one begins, and two that cross.
LINES = slow.drawn("""
    ..###..##..
    ..###..##..
    ###########
    ###########
    .###..####.
    .###..####.
""")
# Level and upright chords that cross each other many times, and share ends at the borders.
GRID = slow.drawn("""
    ..#.#...
    ########
    .######.
    ########
    .######.
    ########
    ..#.#...
""")
DRAWN = [slow.NESTED, slow.CHESS, slow.COMB, slow.STEPS, slow.CHAIN, slow.SIDE_BY_SIDE, LINES, GRID]
CALLS = [chords, fewest, split, lambda region: is_split(region, None), lambda region: is_split(region, ([], [], []))]


def larger_sets():
    return [squares for squares, flipped in slow.larger_pairs() if not flipped] + [LINES, GRID]


def stretched_chord(chord):
    return tuple(slow.stretch_point(point) for point in chord)


class TestSmallRegions(unittest.TestCase):

    def test_example(self):
        got = [
            chords(PLUS), fewest(PLUS), is_split(PLUS, split(PLUS)),
            fewest(Region.of((0, 0, 3, 3)) - Region.of((1, 1, 2, 2))),
        ]
        want = ([((1, 1), (2, 1)), ((1, 2), (2, 2))], [((1, 1), (1, 2)), ((2, 1), (2, 2))])
        self.assertEqual(got, [want, 3, True, 4])

    def check(self, squares):
        """Checks chords and a split against what goes through all squares; returns the number of boxes."""
        region = region_of(squares)
        level, upright = search.chords(squares)
        self.assertEqual(chords(region), (level, upright))
        boxes, free, pairs = found = split(region)
        covered = [square for box in boxes for square in slow.offsets(box)]
        self.assertEqual(sorted(covered), sorted(squares))
        for one, other in itertools.combinations(free, 2):
            self.assertFalse(search.points_of(one) & search.points_of(other))
        for one, other in pairs:
            self.assertIn(one, level)
            self.assertIn(other, upright)
            self.assertTrue(search.points_of(one) & search.points_of(other))
        paired = [chord for pair in pairs for chord in pair]
        self.assertEqual(len(set(paired)), len(paired))
        self.assertLessEqual(set(free), set(level + upright))
        self.assertEqual(len(set(free)) + len(pairs), len(level) + len(upright))
        self.assertEqual([boxes, free, pairs], [sorted(boxes), sorted(free), sorted(pairs)])
        self.assertEqual([type(found)] + [type(item) for item in found], [tuple, list, list, list])
        self.assertIs(is_split(region, found), True)
        self.assertEqual(fewest(region), len(boxes))
        return len(boxes)

    def test_all_small_regions(self):
        known = {}
        for squares in all_sets(3, 4):
            self.assertEqual(self.check(squares), search.fewest(squares, known))

    def test_larger_regions(self):
        for squares in larger_sets():
            many = self.check(squares)
            level, upright = chords(region_of(squares))
            numbers = [len(parts(region_of(squares))), len(holes(region_of(squares)))]
            if len(level) + len(upright) < 25:
                want = len(search.reflex_points(squares)) - search.most_free(level + upright) + numbers[0] - numbers[1]
                self.assertEqual(many, want)

    def test_fewest_by_trying_all(self):
        known = {}
        for squares in (slow.CHESS, slow.STEPS, slow.SIDE_BY_SIDE, slow.CHAIN, frozenset(LINES)):
            self.assertEqual(fewest(region_of(squares)), search.fewest(frozenset(squares), known))

    def test_empty_and_single_boxes(self):
        self.assertEqual([chords(Region.empty()), fewest(Region.empty())], [([], []), 0])
        self.assertEqual(split(Region.empty()), ([], [], []))
        block = Region.of((0, 0, 5, 3))
        self.assertEqual([chords(block), fewest(block), split(block)], [([], []), 1, ([(0, 0, 5, 3)], [], [])])
        touching = Region.of((0, 0, 2, 2), (2, 2, 4, 4))
        self.assertEqual([chords(touching), fewest(touching)], [([], []), 2])

    def test_chords_that_share_an_end(self):
        level, upright = chords(PLUS)
        self.assertEqual(len(split(PLUS)[1]), 2)
        for chord in (level[0], upright[0]):
            self.assertIn((1, 1), chord)
        corner = Region.of((0, 0, 4, 4)) - Region.of((0, 0, 1, 1), (3, 0, 4, 1), (0, 3, 1, 4))
        self.assertEqual(chords(corner), ([((1, 1), (3, 1))], [((1, 1), (1, 3))]))
        boxes, free, pairs = split(corner)
        self.assertEqual([len(boxes), len(free), pairs], [3, 1, [(((1, 1), (3, 1)), ((1, 1), (1, 3)))]])

    def test_chords_that_cross(self):
        wide = Region.of((0, 2, 10, 5), (3, 0, 6, 8)) - Region.of((0, 2, 1, 3), (9, 2, 10, 3))
        level, upright = chords(wide)
        self.assertEqual(level, [((1, 3), (9, 3)), ((3, 2), (6, 2)), ((3, 5), (6, 5))])
        self.assertEqual(upright, [((3, 2), (3, 5)), ((6, 2), (6, 5))])
        self.assertEqual([fewest(wide), split(wide)[1]], [4, level])
        cross = region_of(GRID)
        level, upright = chords(cross)
        self.assertEqual([len(level), len(upright)], [8, 6])
        boxes, free, pairs = split(cross)
        self.assertEqual([len(boxes), len(free), len(pairs)], [9, 8, 6])

    def test_chords_in_one_line(self):
        level, upright = chords(region_of(LINES))
        self.assertEqual([chord for chord in level if chord[0][1] == 4], [((2, 4), (5, 4)), ((7, 4), (9, 4))])
        self.assertEqual([chord for chord in level if chord[0][1] == 2], [((1, 2), (4, 2)), ((6, 2), (10, 2))])
        self.assertEqual(upright, [])
        row = Region.of((0, 0, 9, 1), (1, 1, 3, 2), (5, 1, 7, 2), (1, -1, 3, 0))
        self.assertEqual(chords(row)[0], [((1, 0), (3, 0)), ((1, 1), (3, 1)), ((5, 1), (7, 1))])
        self.assertEqual(chords(row)[1], [((1, 0), (1, 1)), ((3, 0), (3, 1))])


class TestGreatNumbers(unittest.TestCase):

    def check(self, region):
        """Checks that a split is one, and that its chords show why there are no fewer boxes."""
        boxes, free, pairs = split(region)
        union = Region.empty()
        for box in boxes:
            self.assertFalse(union & Region.of(box))
            union = union | Region.of(box)
        self.assertEqual(union, region)
        level, upright = chords(region)
        self.assertEqual(len(free) + len(pairs), len(level) + len(upright))
        for one, other in itertools.combinations(free, 2):
            self.assertFalse(self.box_of(one) & self.box_of(other))
        for one, other in pairs:
            self.assertTrue(self.box_of(one) & self.box_of(other))
        self.assertEqual(len({chord for pair in pairs for chord in pair}), 2 * len(pairs))
        self.assertLessEqual(set(free) | {chord for pair in pairs for chord in pair}, set(level + upright))
        want = corner_counts(region)[1] - len(free) + len(parts(region)) - len(holes(region))
        self.assertEqual([len(boxes), fewest(region)], [want, want])
        self.assertIs(is_split(region, (boxes[::-1], free[::-1], pairs[::-1])), True)
        return want

    def box_of(self, chord):
        """Returns the points of a chord as the squares of a region."""
        (x, y), (a, b) = chord
        return Region.of((x, y, a + 1, b + 1))

    def test_stretched_regions(self):
        for squares in larger_sets():
            small, great = region_of(squares), slow.stretched(squares, False)
            self.assertEqual(self.check(great), fewest(small))
            want = tuple([stretched_chord(chord) for chord in found] for found in chords(small))
            self.assertEqual(chords(great), want)

    def test_a_hundred_spans(self):
        chance = random.Random(5)
        stairs = Region.of(*[(k * BIG, 0, (k + 1) * BIG, chance.randrange(1, 9) * BIG) for k in range(100)])
        self.assertLess(self.check(stairs), 100)
        lattice = Region.of((0, 0, 25 * BIG, 25 * BIG)) - Region.of(*[
            (2 * i * BIG + 5, 2 * j * BIG + 5, 2 * i * BIG + 9, 2 * j * BIG + 9) for i in range(7) for j in range(7)
        ])
        self.assertEqual(corner_counts(lattice), (4, 196, 0))
        self.assertEqual(len(chords(lattice)[0]), 84)
        self.check(lattice)
        chain = Region.of(*[(k * BIG, k * BIG, (k + 1) * BIG, (k + 1) * BIG) for k in range(100)])
        self.assertEqual(self.check(chain), 100)
        for seed in range(20):
            chance = random.Random(seed)
            places = [(chance.randrange(60), chance.randrange(60)) for _ in range(18)]
            ends = [(chance.randrange(1, 20), chance.randrange(1, 20)) for _ in range(18)]
            self.check(Region.of(*[
                (x * BIG, y * BIG, (x + a) * BIG, (y + b) * BIG) for (x, y), (a, b) in zip(places, ends)
            ]))


class TestIsSplit(unittest.TestCase):

    def test_other_orders(self):
        chance = random.Random(3)
        for squares in DRAWN:
            region = region_of(squares)
            found = split(region)
            for _ in range(5):
                for items in found:
                    chance.shuffle(items)
                self.assertIs(is_split(region, found), True)

    def test_other_boxes_and_chords(self):
        block = Region.of((0, 0, 2, 2), (2, 0, 4, 1))
        self.assertIs(is_split(block, ([(0, 0, 2, 2), (2, 0, 4, 1)], [], [])), True)
        self.assertIs(is_split(block, ([(0, 0, 4, 1), (0, 1, 2, 2)], [], [])), True)
        self.assertIs(is_split(block, ([(0, 0, 4, 1), (0, 0, 2, 2)], [], [])), False)
        self.assertIs(is_split(block, ([(0, 0, 2, 1), (2, 0, 4, 1), (0, 1, 2, 2)], [], [])), False)
        self.assertIs(is_split(block, ([(0, 0, 4, 2)], [], [])), False)
        # As many squares together, but not those of the region.
        self.assertIs(is_split(block, ([(0, 0, 2, 2), (3, 0, 5, 1)], [], [])), False)
        self.assertIs(is_split(block, ([(0, 0, 2, 2), (1, 0, 3, 1)], [], [])), False)
        (low, high), (left, right) = chords(PLUS)
        rows = [(1, 0, 2, 1), (0, 1, 3, 2), (1, 2, 2, 3)]
        columns = [(0, 1, 1, 2), (1, 0, 2, 3), (2, 1, 3, 2)]
        for boxes in (rows, columns):
            for free in ([low, high], [left, right]):
                for pairs in ([(low, left), (high, right)], [(low, right), (high, left)]):
                    self.assertIs(is_split(PLUS, (boxes, free, pairs)), True)
            for free, pairs in [
                ([low, left], [(low, left), (high, right)]), ([low, high], [(left, low), (right, high)]),
                ([low, high], [(low, left), (high, left)]), ([low, high], [(low, left), (low, right)]),
                ([low, low], [(low, left), (high, right)]), ([low, high], [(low, left), (low, left)]),
                ([low, high], [(low, high), (left, right)]), ([low], [(low, left), (high, right)]),
                ([low, high, left], [(low, left)]), ([low, high], [(low, left)]), ([low, high, left, right], []),
                ([low, high], [[low, left], (high, right)]), ([low, list(high)], [(low, left), (high, right)]),
                ([low, high[::-1]], [(low, left), (high, right)]), ([low, None], [(low, left), (high, right)]),
                ([low, high], [(low, left), None]), ([low, high], [(low, left), (high, [])]),
                ([low, high], [(low, left, low), (high, right)]), ([low, ((1, 2), (2, 2.0))], [(low, left), (high, right)]),
                ([((True, 1), (2, 1)), high], [(low, left), (high, right)]), ([low, {}], [(low, left), (high, right)]),
            ]:
                self.assertIs(is_split(PLUS, (boxes, free, pairs)), False, (free, pairs))

    def test_chords_that_do_not_meet_are_no_pair(self):
        apart = region_of(LINES) | Region.of((20, 0, 21, 3), (19, 1, 22, 2))
        boxes, free, pairs = split(apart)
        self.assertIs(is_split(apart, (boxes, free, pairs)), True)
        level, upright = chords(apart)
        far = ((2, 4), (5, 4))
        self.assertIn(far, level)
        self.assertIs(is_split(apart, (boxes, free, [(far, pairs[0][1])] + pairs[1:])), False)

    def test_values_changed_at_one_place(self):
        for region in (PLUS, slow.stretched(slow.CHAIN, False), region_of(LINES), region_of(slow.STEPS)):
            for other in changed(split(region)):
                self.assertIs(is_split(region, other), False, other)

    def test_values_of_other_kinds(self):
        for thing in NO_REGIONS + [(), ([],), ([], []), ([], [], [], []), [[], [], []], ((), (), ()), ([], [], ()), PLUS]:
            for region in (PLUS, Region.empty()):
                self.assertIs(is_split(region, thing), False)
        self.assertIs(is_split(Region.empty(), ([], [], [])), True)
        self.assertIs(is_split(PLUS, ([], [], [])), False)
        self.assertIs(is_split(Region.empty(), split(PLUS)), False)
        self.assertIs(is_split(PLUS, split(Region.of((0, 0, 3, 3)))), False)


class TestArguments(unittest.TestCase):

    def test_no_regions(self):
        for bad in NO_REGIONS:
            for call in CALLS:
                with self.assertRaises(InvalidRegion) as caught:
                    call(bad)
                self.assertIs(caught.exception.value, bad)

    def test_unbounded_regions(self):
        for region in (Region.everything(), ~PLUS, ~slow.stretched(slow.COMB, False)):
            for call in CALLS:
                with self.assertRaises(Unbounded) as caught:
                    call(region)
                self.assertIs(caught.exception.value, region)

    def test_arguments_do_not_change_and_results_are_new(self):
        region = region_of(slow.COMB)
        before = repr(region)
        for call in (chords, split):
            want = repr(call(region))
            for items in call(region):
                items.clear()
            self.assertEqual(repr(call(region)), want)
        thing = split(region)
        told = repr(thing)
        self.assertIs(is_split(region, thing), True)
        self.assertEqual([repr(thing), repr(region)], [told, before])
        self.assertEqual(sum((x2 - x1) * (y2 - y1) for x1, y1, x2, y2 in thing[0]), count(region))


if __name__ == "__main__":
    unittest.main()

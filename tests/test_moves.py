"""Stage 2: moved regions."""

import unittest

from boxregions.errors import InvalidNumber, InvalidRegion
from boxregions.moves import mirrored, scaled, shifted, turned
from boxregions.regions import Region
from tests.grids import BIG, NO_INTEGERS, NO_REGIONS, all_sets, is_form, region_of, squares_of_slabs

MOVES = [
    (lambda region: shifted(region, 3, -5), lambda x, y: (x + 3, y - 5)),
    (lambda region: shifted(region, 0, 0), lambda x, y: (x, y)),
    (mirrored, lambda x, y: (-x - 1, y)),
    (turned, lambda x, y: (-y - 1, x)),
]

SAMPLES = [
    Region.empty(), Region.everything(), Region.of((0, 0, 3, 1)), Region.of((-2, 5, 7, 9), (0, 0, 1, 6), (7, 9, 8, 10)),
    ~Region.of((0, 0, 2, 2), (2, 2, 3, 3)), Region.of((-BIG, 1, BIG, 5), (7, 2, 9, 2 * BIG)),
    Region.of((0, 0, 9, 9)) - Region.of((3, 3, 4, 5)),
]


class TestMoves(unittest.TestCase):

    def test_example(self):
        one = Region.of((0, 0, 3, 1))
        got = [shifted(one, 10 ** 30, 1).frame[1:], mirrored(one).slabs, turned(one).slabs, repr(~scaled(one, 2))]
        self.assertEqual(got, [
            (1, 1000000000000000000000000000003, 2), [(-3, 0, [(0, 1)])], [(-1, 0, [(0, 3)])],
            "~Region([(0, 6, [(0, 2)])])",
        ])

    def check(self, region, squares, is_bounded):
        self.assertTrue(is_form(region.slabs), region)
        self.assertIs(region.is_bounded, is_bounded)
        self.assertEqual(squares_of_slabs(region.slabs), squares)

    def test_every_square_moves(self):
        for squares in all_sets(3, 3):
            region = region_of(squares)
            for move, place in MOVES:
                want = {place(x, y) for x, y in squares}
                self.check(move(region), want, True)
                self.check(move(~region), want, False)

    def test_every_square_is_scaled(self):
        for squares in all_sets(3, 2):
            region = region_of(squares)
            for factor in (1, 2, 3):
                want = {(factor * x + u, factor * y + v) for x, y in squares for u in range(factor) for v in range(factor)}
                self.check(scaled(region, factor), want, True)
                self.check(scaled(~region, factor), want, False)

    def test_squares_left_of_and_below_zero_are_scaled(self):
        made = scaled(Region.of((-2, -1, -1, 0), (-1, 0, 1, 1)), 3)
        self.assertEqual(made.slabs, [(-6, -3, [(-3, 0)]), (-3, 3, [(0, 3)])])

    def test_great_numbers(self):
        region = Region.of((0, -2, BIG, 3), (5, 7, 6, 8))
        self.assertEqual(shifted(region, -BIG, BIG), Region.of((-BIG, BIG - 2, 0, BIG + 3), (5 - BIG, BIG + 7, 6 - BIG, BIG + 8)))
        self.assertEqual(mirrored(region), Region.of((-BIG, -2, 0, 3), (-6, 7, -5, 8)))
        self.assertEqual(turned(region), Region.of((-3, 0, 2, BIG), (-8, 5, -7, 6)))
        made = scaled(region, 10 ** 28)
        self.assertEqual(made, Region.of((0, -2 * 10 ** 28, 10 ** 58, 3 * 10 ** 28), (5 * 10 ** 28, 7 * 10 ** 28, 6 * 10 ** 28, 8 * 10 ** 28)))

    def test_empty_and_everything_stay(self):
        for region in (Region.empty(), Region.everything()):
            for move, _ in MOVES:
                self.assertEqual(move(region), region)
            self.assertEqual(scaled(region, 7), region)

    def test_moving_back(self):
        for region in SAMPLES:
            self.assertEqual(shifted(shifted(region, BIG, -4), -BIG, 4), region)
            self.assertEqual(mirrored(mirrored(region)), region)
            self.assertEqual(turned(turned(turned(turned(region)))), region)
            self.assertEqual(scaled(region, 1), region)
            self.assertEqual(scaled(scaled(region, 2), 3), scaled(region, 6))
            self.assertEqual(mirrored(turned(mirrored(turned(region)))), region)

    def test_moving_goes_with_the_operators(self):
        moves = [move for move, _ in MOVES] + [lambda region: scaled(region, 4)]
        for move in moves:
            for one in SAMPLES:
                self.assertEqual(move(~one), ~move(one))
                for other in SAMPLES:
                    self.assertEqual(move(one | other), move(one) | move(other))
                    self.assertEqual(move(one & other), move(one) & move(other))
                    self.assertEqual(move(one - other), move(one) - move(other))
                    self.assertEqual(move(one ^ other), move(one) ^ move(other))
                    self.assertIs(move(one).within(move(other)), one.within(other))

    def test_numbers_of_squares(self):
        for squares in all_sets(3, 2):
            region = region_of(squares)
            for move, _ in MOVES:
                self.assertEqual(self.size(move(region)), len(squares))
            self.assertEqual(self.size(scaled(region, 5)), 25 * len(squares))

    def size(self, region):
        return sum((x2 - x1) * (y2 - y1) for x1, y1, x2, y2 in region.boxes())

    def test_arguments_do_not_change_and_results_are_new(self):
        for region in SAMPLES:
            before = repr(region)
            for move in [move for move, _ in MOVES] + [lambda region: scaled(region, 1)]:
                self.assertIsNot(move(region), region)
                self.assertEqual(repr(region), before)

    def test_no_regions(self):
        calls = [
            lambda bad: shifted(bad, 1, 1), mirrored, turned, lambda bad: scaled(bad, 1),
            lambda bad: shifted(bad, None, None), lambda bad: scaled(bad, 0),
        ]
        for bad in NO_REGIONS:
            for call in calls:
                with self.assertRaises(InvalidRegion) as caught:
                    call(bad)
                self.assertIs(caught.exception.value, bad)

    def test_no_integers(self):
        for region in (Region.of((0, 0, 1, 1)), Region.empty(), Region.everything()):
            before = repr(region)
            for bad in NO_INTEGERS:
                for call in (
                    lambda: shifted(region, bad, 0), lambda: shifted(region, 0, bad), lambda: shifted(region, bad, []),
                    lambda: scaled(region, bad),
                ):
                    with self.assertRaises(InvalidNumber) as caught:
                        call()
                    self.assertIs(caught.exception.value, bad)
            self.assertEqual(repr(region), before)

    def test_factors_below_one(self):
        region = Region.of((0, 0, 1, 1))
        for factor in (0, -1, -BIG):
            for one in (region, ~region, Region.empty()):
                with self.assertRaises(InvalidNumber) as caught:
                    scaled(one, factor)
                self.assertIs(caught.exception.value, factor)


if __name__ == "__main__":
    unittest.main()

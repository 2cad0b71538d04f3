"""Stage 10: shadows, products and least counts."""

import itertools
import unittest

from boxregions.counting import count
from boxregions.errors import InvalidAxis, InvalidRegion, InvalidSpans, Unbounded
from boxregions.regions import Region
from boxregions.shadows import least_count, product, shadow
from tests import slow
from tests.grids import BIG, NO_REGIONS, all_sets, is_form, region_of, squares_of_slabs

NO_AXES = [
    None, 0, 1, True, "", "X", "Y", "xy", "yx", "z", " x", "x ", "x\n", b"x", ("x",), ["x"], {"x": 1}, {"x"}, Region.empty(),
    object(), ("x", "y"),
]
NO_SPANS = [
    None, 0, True, "", "ab", b"", {}, set(), object(), Region.empty(), Region.of((0, 0, 1, 1)),
    (), ((0, 1),), (0, 1), [0, 1], [[0, 1]], [(0,)], [(0, 1, 2)], [()], [None], ["ab"], [(0, 1), None], [{0, 1}],
    [(0, 0)], [(1, 0)], [(BIG, BIG)], [(BIG, -BIG)], [(0, 1), (3, 3)], [(0, 1), (4, 3)],
    [(0, 1), (1, 2)], [(0, 2), (1, 3)], [(0, 5), (1, 2)], [(3, 4), (0, 1)], [(0, 1), (0, 1)], [(0, 1), (2, 3), (3, 4)],
    [(0, 1), (5, 6), (2, 3)], [(False, 1)], [(0, True)], [(0.0, 1)], [(0, 1.0)], [("0", 1)], [(0, "1")], [(None, 1)], [(0, None)],
    [(0, 1), (2, True)], [(0, 1), (2.0, 3)],
]


def spans_of(numbers):
    """Returns the list of spans of a set of integers."""
    begins = sorted(number for number in numbers if number - 1 not in numbers)
    ends = sorted(number + 1 for number in numbers if number + 1 not in numbers)
    return list(zip(begins, ends))


def numbers_of(spans):
    return {number for a, b in spans for number in range(a, b)}


def all_spans(size):
    """Yields the list of spans of each set of integers below a size."""
    for bits in range(2 ** size):
        yield spans_of({number for number in range(size) if bits >> number & 1})


class TestSmallRegions(unittest.TestCase):

    def test_example(self):
        one = Region.of((0, 0, 1, 1), (4, 0, 6, 2), (1, 5, 3, 6))
        got = [
            shadow(one, "x"), shadow(one, "y"), list(product([(0, 3)], [(0, 1), (4, 5)]).boxes()),
            least_count([(0, 10 ** 30)], [(5, 8)]),
        ]
        self.assertEqual(got, [[(0, 3), (4, 6)], [(0, 2), (5, 6)], [(0, 0, 3, 1), (0, 4, 3, 5)], 10 ** 30])

    def check(self, squares):
        region = region_of(squares)
        self.assertEqual(shadow(region, "x"), spans_of({x for x, _ in squares}))
        self.assertEqual(shadow(region, "y"), spans_of({y for _, y in squares}))

    def test_shadows(self):
        for squares in all_sets(3, 4):
            self.check(squares)
        for squares, _ in slow.larger_pairs():
            self.check(squares)

    def test_products(self):
        for xs in all_spans(4):
            for ys in all_spans(5):
                region = product(xs, ys)
                self.assertTrue(is_form(region.slabs))
                self.assertTrue(region.is_bounded)
                want = set(itertools.product(numbers_of(xs), numbers_of(ys)))
                self.assertEqual(squares_of_slabs(region.slabs), want)
                self.assertEqual(region, region_of(want))

    def test_least_counts(self):
        least = {}
        for squares in all_sets(3, 4):
            key = repr(spans_of({x for x, _ in squares})), repr(spans_of({y for _, y in squares}))
            least[key] = min(least.get(key, len(squares)), len(squares))
        for xs in all_spans(3):
            for ys in all_spans(4):
                self.assertEqual(least_count(xs, ys), least.get((repr(xs), repr(ys))))

    def test_empty_ones(self):
        self.assertEqual([shadow(Region.empty(), "x"), shadow(Region.empty(), "y")], [[], []])
        self.assertEqual([product([], []), product([(0, 1)], []), product([], [(0, 1)])], [Region.empty()] * 3)
        self.assertEqual([least_count([], []), least_count([(0, 1)], []), least_count([], [(0, 1)])], [0, None, None])


class TestGreatNumbers(unittest.TestCase):

    def test_stretched_regions(self):
        for squares, flipped in slow.larger_pairs()[::2]:
            region = slow.stretched(squares, flipped)
            xs, ys = shadow(region, "x"), shadow(region, "y")
            self.assertEqual(xs, [(slow.STRETCHED_X[a], slow.STRETCHED_X[b]) for a, b in spans_of({x for x, _ in squares})])
            self.assertEqual(ys, [(slow.STRETCHED_Y[a], slow.STRETCHED_Y[b]) for a, b in spans_of({y for _, y in squares})])
            full = product(xs, ys)
            self.assertTrue(region.within(full))
            self.assertEqual([shadow(full, "x"), shadow(full, "y")], [xs, ys])
            self.assertLessEqual(least_count(xs, ys), count(region))
            wide, high = sum(b - a for a, b in xs), sum(b - a for a, b in ys)
            self.assertEqual([count(full), least_count(xs, ys)], [wide * high, max(wide, high)])

    def test_products_and_their_slabs(self):
        region = product([(-BIG, -5), (3, BIG)], [(0, 1), (BIG, 2 * BIG)])
        spans = [(0, 1), (BIG, 2 * BIG)]
        self.assertEqual(region.slabs, [(-BIG, -5, spans), (3, BIG, spans)])
        self.assertEqual(region, Region.of(*region.boxes()))
        self.assertEqual(repr(region), repr(Region.of(*region.boxes())))

    def test_a_hundred_spans(self):
        many = [(3 * k * BIG, 3 * k * BIG + k + 1) for k in range(100)]
        self.assertEqual(shadow(product(many, [(0, 1)]), "x"), many)
        self.assertEqual(shadow(product([(0, BIG)], many), "y"), many)
        self.assertEqual(least_count(many, [(0, 5)]), 5050)
        self.assertEqual(least_count(many, [(-BIG, BIG)]), 2 * BIG)
        chain = Region.of(*[(k * BIG, k * BIG, (k + 1) * BIG, (k + 1) * BIG) for k in range(100)])
        self.assertEqual([shadow(chain, "x"), shadow(chain, "y")], [[(0, 100 * BIG)]] * 2)


class TestArguments(unittest.TestCase):

    def test_no_regions(self):
        for bad in NO_REGIONS:
            for axis in ("x", "z", None):
                with self.assertRaises(InvalidRegion) as caught:
                    shadow(bad, axis)
                self.assertIs(caught.exception.value, bad)

    def test_unbounded_regions(self):
        for region in (Region.everything(), ~Region.of((0, 0, 1, 1))):
            for axis in ("x", "y", "z", None):
                with self.assertRaises(Unbounded) as caught:
                    shadow(region, axis)
                self.assertIs(caught.exception.value, region)

    def test_no_axes(self):
        for region in (Region.empty(), Region.of((0, 0, 1, 1))):
            for bad in NO_AXES:
                with self.assertRaises(InvalidAxis) as caught:
                    shadow(region, bad)
                self.assertIs(caught.exception.value, bad)

    def test_no_lists_of_spans(self):
        for bad in NO_SPANS:
            for xs, ys in [(bad, []), (bad, [(0, 1)]), ([], bad), ([(0, 1), (3, 4)], bad), (bad, None), (bad, bad)]:
                for call in (product, least_count):
                    with self.assertRaises(InvalidSpans) as caught:
                        call(xs, ys)
                    self.assertIs(caught.exception.value, bad)

    def test_arguments_do_not_change_and_results_are_new(self):
        one = Region.of((0, 0, 1, 1), (4, 0, 6, 2))
        before = repr(one)
        for axis in ("x", "y"):
            want = repr(shadow(one, axis))
            shadow(one, axis).clear()
            self.assertEqual([repr(shadow(one, axis)), repr(one)], [want, before])
        xs, ys = [(0, 3)], [(0, 1), (4, 5)]
        made = product(xs, ys)
        least_count(xs, ys)
        self.assertEqual([xs, ys], [[(0, 3)], [(0, 1), (4, 5)]])
        told = repr(made)
        xs.append((5, 6))
        ys.clear()
        self.assertEqual(repr(made), told)


if __name__ == "__main__":
    unittest.main()

"""The names, arguments and files that the document's interface lists, as far as they have landed."""

import inspect
import unittest

from boxregions import borders, counting, growing, moves, parts, regions

FUNCTIONS = [
    (regions, "is_square", ["thing"]),
    (regions, "is_box", ["thing"]),
    (regions, "separating", ["one", "other"]),
    (moves, "shifted", ["region", "by_x", "by_y"]),
    (moves, "mirrored", ["region"]),
    (moves, "turned", ["region"]),
    (moves, "scaled", ["region", "factor"]),
    (growing, "opened", ["region", "box"]),
    (growing, "closed", ["region", "box"]),
    (growing, "around", ["distance"]),
    (counting, "count", ["region"]),
    (counting, "nth", ["region", "number"]),
    (counting, "rank", ["region", "square"]),
    (counting, "greatest_boxes", ["region"]),
    (counting, "widest", ["region"]),
    (counting, "side", ["region"]),
    (parts, "parts", ["region", "corners"]),
    (parts, "holes", ["region", "corners"]),
    (parts, "part_of", ["region", "square", "corners"]),
    (parts, "corner_counts", ["region"]),
    (borders, "border_length", ["region"]),
    (borders, "loops", ["region"]),
    (borders, "from_loops", ["loops"]),
    (borders, "loop_area", ["loop"]),
]

METHODS = [
    "of", "empty", "everything", "is_bounded", "slabs", "frame", "within", "boxes", "__or__", "__and__", "__sub__",
    "__xor__", "__invert__", "__contains__", "__bool__", "__eq__", "__repr__", "__add__", "__floordiv__",
]


class TestInterface(unittest.TestCase):

    def test_functions_and_their_arguments(self):
        for module, name, arguments in FUNCTIONS:
            function = getattr(module, name)
            self.assertEqual(function.__module__, module.__name__)
            self.assertEqual(list(inspect.signature(function).parameters), arguments, name)

    def test_arguments_by_name(self):
        one = regions.Region.of((0, 0, 1, 1))
        self.assertIs(regions.is_square(thing=(0, 0)), True)
        self.assertIs(regions.is_box(thing=(0, 0, 1, 1)), True)
        self.assertIsNone(regions.separating(one=one, other=one))
        self.assertEqual(moves.shifted(region=one, by_x=1, by_y=2), regions.Region.of((1, 2, 2, 3)))
        self.assertEqual(moves.mirrored(region=one), regions.Region.of((-1, 0, 0, 1)))
        self.assertEqual(moves.turned(region=one), regions.Region.of((-1, 0, 0, 1)))
        self.assertEqual(moves.scaled(region=one, factor=2), regions.Region.of((0, 0, 2, 2)))
        self.assertIs(one.within(other=one), True)

    def test_arguments_of_the_later_stages_by_name(self):
        one = regions.Region.of((0, 0, 2, 2))
        self.assertEqual(growing.opened(region=one, box=(0, 0, 2, 1)), one)
        self.assertEqual(growing.closed(region=one, box=(0, 0, 2, 1)), one)
        self.assertEqual(growing.around(distance=1), (-1, -1, 2, 2))
        self.assertEqual(counting.count(region=one), 4)
        self.assertEqual(counting.nth(region=one, number=3), (1, 1))
        self.assertEqual(counting.rank(region=one, square=(1, 1)), 3)
        self.assertEqual(list(counting.greatest_boxes(region=one)), [(0, 0, 2, 2)])
        self.assertEqual([counting.widest(region=one), counting.side(region=one)], [(0, 0, 2, 2), 2])
        self.assertEqual(parts.parts(region=one, corners=True), [one])
        self.assertEqual(parts.holes(region=~one, corners=True), [one])
        self.assertEqual(parts.part_of(region=one, square=(1, 1), corners=True), one)
        self.assertEqual(parts.corner_counts(region=one), (4, 0, 0))
        self.assertEqual(borders.border_length(region=one), 8)
        loop = [(0, 0), (2, 0), (2, 2), (0, 2)]
        self.assertEqual(borders.loops(region=one), [loop])
        self.assertEqual(borders.from_loops(loops=[loop]), one)
        self.assertEqual(borders.loop_area(loop=loop), 4)

    def test_corners_may_be_left_out_and_stand_behind_a_star(self):
        for function in (parts.parts, parts.holes, parts.part_of):
            corners = inspect.signature(function).parameters["corners"]
            self.assertIs(corners.default, False)
            self.assertEqual(corners.kind, inspect.Parameter.KEYWORD_ONLY)

    def test_methods_stand_in_the_class_itself(self):
        self.assertEqual(regions.Region.__module__, "boxregions.regions")
        for name in METHODS:
            self.assertIn(name, vars(regions.Region))

    def test_kinds_of_methods(self):
        members = vars(regions.Region)
        self.assertIsInstance(members["of"], classmethod)
        self.assertIsInstance(members["empty"], staticmethod)
        self.assertIsInstance(members["everything"], staticmethod)
        for name in ("is_bounded", "slabs", "frame"):
            self.assertIsInstance(members[name], property)
        self.assertTrue(inspect.isgeneratorfunction(members["boxes"]))
        self.assertTrue(inspect.isgeneratorfunction(counting.greatest_boxes))


if __name__ == "__main__":
    unittest.main()

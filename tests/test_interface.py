"""The names, arguments and files that the document's interface lists, as far as they have landed."""

import inspect
import unittest

from boxregions import moves, regions

FUNCTIONS = [
    (regions, "is_square", ["thing"]),
    (regions, "is_box", ["thing"]),
    (regions, "separating", ["one", "other"]),
    (moves, "shifted", ["region", "by_x", "by_y"]),
    (moves, "mirrored", ["region"]),
    (moves, "turned", ["region"]),
    (moves, "scaled", ["region", "factor"]),
]

METHODS = [
    "of", "empty", "everything", "is_bounded", "slabs", "frame", "within", "boxes", "__or__", "__and__", "__sub__",
    "__xor__", "__invert__", "__contains__", "__bool__", "__eq__", "__repr__",
]


class TestInterface(unittest.TestCase):

    def test_functions_and_their_arguments(self):
        for module, name, arguments in FUNCTIONS:
            function = getattr(module, name)
            self.assertEqual(function.__module__, module.__name__)
            self.assertEqual(list(inspect.signature(function).parameters), arguments, name)

    def test_arguments_by_name(self):
        one = regions.Region.of((0, 0, 1, 1))
        self.assertIs(regions.is_square(thing=(0, 0)), True)
        self.assertIs(regions.is_box(thing=(0, 0, 1, 1)), True)
        self.assertIsNone(regions.separating(one=one, other=one))
        self.assertEqual(moves.shifted(region=one, by_x=1, by_y=2), regions.Region.of((1, 2, 2, 3)))
        self.assertEqual(moves.mirrored(region=one), regions.Region.of((-1, 0, 0, 1)))
        self.assertEqual(moves.turned(region=one), regions.Region.of((-1, 0, 0, 1)))
        self.assertEqual(moves.scaled(region=one, factor=2), regions.Region.of((0, 0, 2, 2)))
        self.assertIs(one.within(other=one), True)

    def test_methods_stand_in_the_class_itself(self):
        self.assertEqual(regions.Region.__module__, "boxregions.regions")
        for name in METHODS:
            self.assertIn(name, vars(regions.Region))

    def test_kinds_of_methods(self):
        members = vars(regions.Region)
        self.assertIsInstance(members["of"], classmethod)
        self.assertIsInstance(members["empty"], staticmethod)
        self.assertIsInstance(members["everything"], staticmethod)
        for name in ("is_bounded", "slabs", "frame"):
            self.assertIsInstance(members[name], property)
        self.assertTrue(inspect.isgeneratorfunction(members["boxes"]))


if __name__ == "__main__":
    unittest.main()

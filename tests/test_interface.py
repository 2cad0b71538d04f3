"""The names, arguments and files that the document's interface lists."""

import inspect
import unittest

from boxregions import (
    borders, console, counting, errors, growing, moves, parts, reaches, regions, rooms, shadows, splitting, texts, ways,
)

FUNCTIONS = [
    (regions, "is_square", ["thing"]),
    (regions, "is_box", ["thing"]),
    (regions, "separating", ["one", "other"]),
    (moves, "shifted", ["region", "by_x", "by_y"]),
    (moves, "mirrored", ["region"]),
    (moves, "turned", ["region"]),
    (moves, "scaled", ["region", "factor"]),
    (growing, "opened", ["region", "box"]),
    (growing, "closed", ["region", "box"]),
    (growing, "around", ["distance"]),
    (counting, "count", ["region"]),
    (counting, "nth", ["region", "number"]),
    (counting, "rank", ["region", "square"]),
    (counting, "greatest_boxes", ["region"]),
    (counting, "widest", ["region"]),
    (counting, "side", ["region"]),
    (parts, "parts", ["region", "corners"]),
    (parts, "holes", ["region", "corners"]),
    (parts, "part_of", ["region", "square", "corners"]),
    (parts, "corner_counts", ["region"]),
    (borders, "border_length", ["region"]),
    (borders, "loops", ["region"]),
    (borders, "from_loops", ["loops"]),
    (borders, "loop_area", ["loop"]),
    (reaches, "reach", ["one", "other"]),
    (reaches, "joining", ["region"]),
    (reaches, "closing", ["region"]),
    (reaches, "hole_closing", ["region", "square"]),
    (splitting, "chords", ["region"]),
    (splitting, "fewest", ["region"]),
    (splitting, "split", ["region"]),
    (splitting, "is_split", ["region", "thing"]),
    (ways, "way_length", ["region", "start", "goal"]),
    (ways, "way", ["region", "start", "goal"]),
    (ways, "is_way", ["region", "start", "goal", "thing"]),
    (shadows, "shadow", ["region", "axis"]),
    (shadows, "product", ["xs", "ys"]),
    (shadows, "least_count", ["xs", "ys"]),
    (texts, "format_region", ["region"]),
    (texts, "parse_region", ["text"]),
]

# What stands in the body of the class itself, with its arguments, None for a property or a class value.
OWN = [
    (rooms.Room, "MOST", None), (rooms.Room, "is_name", ["thing"]), (rooms.Room, "whole", None),
    (rooms.Room, "put", ["self", "user", "name", "region"]), (rooms.Room, "join", ["self", "user", "name", "region"]),
    (rooms.Room, "cut", ["self", "user", "name", "region"]), (rooms.Room, "drop", ["self", "user", "name"]),
    (rooms.Room, "undo", ["self", "user"]), (rooms.Room, "region", ["self", "name"]), (rooms.Room, "names", ["self"]),
    (rooms.Room, "log", ["self"]), (rooms.Room, "trial", ["self"]), (rooms.Room, "tried", ["self", "action"]),
    (rooms.Room, "copy", ["self"]), (rooms.Room, "__len__", ["self"]), (rooms.Room, "__eq__", ["self", "other"]),
    (rooms.FixedRoom, "__init__", ["self", "frame"]), (rooms.FixedRoom, "frame", None), (rooms.FixedRoom, "copy", ["self"]),
    (rooms.FixedRoom, "put", ["self", "user", "name", "region"]), (rooms.FixedRoom, "join", ["self", "user", "name", "region"]),
    (console.Console, "run", ["self", "line"]), (console.Console, "__len__", ["self"]),
]

METHODS = [
    "of", "empty", "everything", "is_bounded", "slabs", "frame", "within", "boxes", "__or__", "__and__", "__sub__",
    "__xor__", "__invert__", "__contains__", "__bool__", "__eq__", "__repr__", "__add__", "__floordiv__",
]


class TestInterface(unittest.TestCase):

    def test_functions_and_their_arguments(self):
        for module, name, arguments in FUNCTIONS:
            function = getattr(module, name)
            self.assertEqual(function.__module__, module.__name__)
            self.assertEqual(list(inspect.signature(function).parameters), arguments, name)

    def test_arguments_by_name(self):
        one = regions.Region.of((0, 0, 1, 1))
        self.assertIs(regions.is_square(thing=(0, 0)), True)
        self.assertIs(regions.is_box(thing=(0, 0, 1, 1)), True)
        self.assertIsNone(regions.separating(one=one, other=one))
        self.assertEqual(moves.shifted(region=one, by_x=1, by_y=2), regions.Region.of((1, 2, 2, 3)))
        self.assertEqual(moves.mirrored(region=one), regions.Region.of((-1, 0, 0, 1)))
        self.assertEqual(moves.turned(region=one), regions.Region.of((-1, 0, 0, 1)))
        self.assertEqual(moves.scaled(region=one, factor=2), regions.Region.of((0, 0, 2, 2)))
        self.assertIs(one.within(other=one), True)

    def test_arguments_of_the_later_stages_by_name(self):
        one = regions.Region.of((0, 0, 2, 2))
        self.assertEqual(growing.opened(region=one, box=(0, 0, 2, 1)), one)
        self.assertEqual(growing.closed(region=one, box=(0, 0, 2, 1)), one)
        self.assertEqual(growing.around(distance=1), (-1, -1, 2, 2))
        self.assertEqual(counting.count(region=one), 4)
        self.assertEqual(counting.nth(region=one, number=3), (1, 1))
        self.assertEqual(counting.rank(region=one, square=(1, 1)), 3)
        self.assertEqual(list(counting.greatest_boxes(region=one)), [(0, 0, 2, 2)])
        self.assertEqual([counting.widest(region=one), counting.side(region=one)], [(0, 0, 2, 2), 2])
        self.assertEqual(parts.parts(region=one, corners=True), [one])
        self.assertEqual(parts.holes(region=~one, corners=True), [one])
        self.assertEqual(parts.part_of(region=one, square=(1, 1), corners=True), one)
        self.assertEqual(parts.corner_counts(region=one), (4, 0, 0))
        self.assertEqual(borders.border_length(region=one), 8)
        loop = [(0, 0), (2, 0), (2, 2), (0, 2)]
        self.assertEqual(borders.loops(region=one), [loop])
        self.assertEqual(borders.from_loops(loops=[loop]), one)
        self.assertEqual(borders.loop_area(loop=loop), 4)

    def test_arguments_of_stages_7_to_10_by_name(self):
        one = regions.Region.of((0, 0, 2, 2))
        self.assertEqual(reaches.reach(one=one, other=~one), 1)
        self.assertEqual([reaches.joining(region=one), reaches.closing(region=one)], [0, 0])
        self.assertEqual(reaches.hole_closing(region=~one, square=(0, 0)), 1)
        self.assertEqual([splitting.chords(region=one), splitting.fewest(region=one)], [([], []), 1])
        found = splitting.split(region=one)
        self.assertIs(splitting.is_split(region=one, thing=found), True)
        self.assertEqual(ways.way_length(region=one, start=(0, 0), goal=(1, 1)), 2)
        found = ways.way(region=one, start=(0, 0), goal=(1, 1))
        self.assertIs(ways.is_way(region=one, start=(0, 0), goal=(1, 1), thing=found), True)
        self.assertEqual(shadows.shadow(region=one, axis="x"), [(0, 2)])
        self.assertEqual(shadows.product(xs=[(0, 2)], ys=[(0, 2)]), one)
        self.assertEqual(shadows.least_count(xs=[(0, 2)], ys=[(0, 3)]), 3)

    def test_arguments_of_stages_11_and_12_by_name(self):
        one = regions.Region.of((0, 0, 2, 2))
        for room in (rooms.Room(), rooms.FixedRoom(frame=(0, 0, 2, 2))):
            room.put(user="ann", name="a", region=one)
            room.join(user="ann", name="a", region=one)
            room.cut(user="ann", name="a", region=one)
            self.assertFalse(room.region(name="a"))
            room.drop(user="bob", name="a")
            self.assertEqual([room.undo(user="bob"), room.undo(user="ann"), room.region(name="a")], ["a", "a", one])
            self.assertEqual([room.tried(action=len), type(room).is_name(thing="a")], [1, True])
        self.assertEqual(texts.parse_region(text=texts.format_region(region=one)), one)
        self.assertEqual(console.Console().run(line="names"), "-")

    def test_what_stands_in_rooms_and_consoles_themselves(self):
        for made, name, arguments in OWN:
            self.assertIn(name, vars(made), name)
            if arguments is not None:
                member = vars(made)[name]
                member = member.__func__ if isinstance(member, staticmethod) else member
                self.assertEqual(list(inspect.signature(member).parameters), arguments, name)
        members = vars(rooms.Room)
        self.assertIsInstance(members["is_name"], staticmethod)
        self.assertIsInstance(members["whole"], property)
        self.assertIsInstance(vars(rooms.FixedRoom)["frame"], property)
        self.assertTrue(inspect.isgeneratorfunction(members["names"]))
        self.assertEqual([rooms.FixedRoom.__bases__, rooms.Room.__bases__], [(rooms.Room,), (object,)])
        self.assertEqual([made.__module__ for made in (rooms.Room, rooms.FixedRoom)], ["boxregions.rooms"] * 2)
        self.assertEqual(console.Console.__module__, "boxregions.console")
        for made in (rooms.Room, console.Console):
            with self.assertRaises(TypeError):
                made(1)
        with self.assertRaises(errors.InvalidBox):
            rooms.FixedRoom(frame=None)

    def test_corners_may_be_left_out_and_stand_behind_a_star(self):
        for function in (parts.parts, parts.holes, parts.part_of):
            corners = inspect.signature(function).parameters["corners"]
            self.assertIs(corners.default, False)
            self.assertEqual(corners.kind, inspect.Parameter.KEYWORD_ONLY)

    def test_methods_stand_in_the_class_itself(self):
        self.assertEqual(regions.Region.__module__, "boxregions.regions")
        for name in METHODS:
            self.assertIn(name, vars(regions.Region))

    def test_kinds_of_methods(self):
        members = vars(regions.Region)
        self.assertIsInstance(members["of"], classmethod)
        self.assertIsInstance(members["empty"], staticmethod)
        self.assertIsInstance(members["everything"], staticmethod)
        for name in ("is_bounded", "slabs", "frame"):
            self.assertIsInstance(members[name], property)
        self.assertTrue(inspect.isgeneratorfunction(members["boxes"]))
        self.assertTrue(inspect.isgeneratorfunction(counting.greatest_boxes))


if __name__ == "__main__":
    unittest.main()

"""The interface of boxregions/errors.py."""

import inspect
import unittest

from boxregions import errors

UNDER_BOX_ERROR = [
    "InvalidBox", "InvalidSquare", "InvalidRegion", "InvalidNumber", "InvalidLoops", "InvalidAxis",
    "InvalidSpans", "InvalidName", "InvalidText", "InvalidLine", "Outside",
]

UNDER_PYTHON = [
    ("BoxError", ValueError), ("Unbounded", RuntimeError), ("Blocked", RuntimeError), ("TooMany", OverflowError),
    ("NoName", KeyError), ("NothingLeft", IndexError),
]


class TestErrors(unittest.TestCase):

    def test_what_stands_directly_under_box_error(self):
        for name in UNDER_BOX_ERROR:
            self.assertEqual(getattr(errors, name).__bases__, (errors.BoxError,), name)

    def test_what_stands_directly_under_classes_of_python(self):
        for name, base in UNDER_PYTHON:
            self.assertEqual(getattr(errors, name).__bases__, (base,), name)

    def test_value_is_the_argument_itself(self):
        names = UNDER_BOX_ERROR + ["Unbounded", "Blocked", "TooMany", "NoName"]
        for name in names:
            for value in ([], (), None, 20, "a", (10 ** 5000, 1), object()):
                made = getattr(errors, name)(value)
                self.assertIs(made.value, value, name)
                self.assertIs(getattr(errors, name)(value=value).value, value, name)

    def test_each_stands_by_itself(self):
        for name in UNDER_BOX_ERROR:
            made_of = getattr(errors, name)
            self.assertIn("__init__", vars(made_of), name)
            self.assertEqual(list(inspect.signature(made_of.__init__).parameters), ["self", "value"], name)
            for value in ("a", [1], None):
                for made in (made_of(value), made_of(value=value)):
                    self.assertIs(made.value, value, name)
                    self.assertIs(type(made), made_of)
                    self.assertIsInstance(made, errors.BoxError)
                    self.assertIsInstance(made, ValueError)
                with self.assertRaises(errors.BoxError) as caught:
                    raise made_of(value)
                self.assertIs(caught.exception.value, value, name)

    def test_exactly_one_value(self):
        for name in UNDER_BOX_ERROR + ["Unbounded", "Blocked", "TooMany", "NoName"]:
            with self.assertRaises(TypeError):
                getattr(errors, name)()
            with self.assertRaises(TypeError):
                getattr(errors, name)(1, 2)

    def test_nothing_left_is_made_of_nothing(self):
        self.assertIsInstance(errors.NothingLeft(), IndexError)
        self.assertFalse(hasattr(errors.NothingLeft(), "value"))

    def test_they_are_defined_in_the_file(self):
        for name in UNDER_BOX_ERROR + [name for name, _ in UNDER_PYTHON]:
            self.assertEqual(getattr(errors, name).__module__, "boxregions.errors")


if __name__ == "__main__":
    unittest.main()

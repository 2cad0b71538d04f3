"""Rules of the language that every file of the package keeps, as far as a short look can tell."""

import ast
import pathlib
import unittest

PACKAGE = pathlib.Path(__file__).resolve().parent.parent / "boxregions"
MODULES = sorted(PACKAGE.rglob("*.py"))
LIBRARY = {"heapq", "math", "itertools", "collections"}
BARRED_NODES = (ast.Global, ast.AsyncFunctionDef, ast.Await, ast.Import, ast.Div, ast.TryStar)
BARRED_NAMES = {
    "type", "open", "input", "filter", "eval", "exec", "compile", "globals", "locals", "vars", "dir", "id", "hash",
    "format", "round", "complex", "callable", "slice", "delattr", "bytearray", "memoryview",
}


class TestLanguage(unittest.TestCase):

    def test_there_are_files_and_nothing_else(self):
        self.assertIn(PACKAGE / "__init__.py", MODULES)
        for path in PACKAGE.rglob("*"):
            if "__pycache__" not in path.parts and not path.is_dir():
                self.assertIn(path, MODULES)

    def test_lines_and_characters(self):
        for path in MODULES:
            lines = path.read_text(encoding="utf-8").split("\n")
            self.assertLessEqual(len(lines) - 1, 399, path)
            for line in lines:
                self.assertLessEqual(len(line), 120, path)
                self.assertTrue(all(" " <= char <= "~" for char in line), (path, line))

    def test_functions_are_short(self):
        for path in MODULES:
            for node in ast.walk(ast.parse(path.read_text(encoding="utf-8"))):
                if isinstance(node, ast.FunctionDef):
                    self.assertLessEqual(node.end_lineno - node.lineno + 1, 40, (path, node.name))

    def test_imports(self):
        for path in MODULES:
            for node in ast.walk(ast.parse(path.read_text(encoding="utf-8"))):
                if isinstance(node, ast.ImportFrom):
                    self.assertEqual(node.level, 0, path)
                    self.assertTrue(node.module.startswith("boxregions.") or node.module in LIBRARY, path)
                    self.assertNotIn("*", [alias.name for alias in node.names], path)

    def test_barred_words(self):
        for path in MODULES:
            for node in ast.walk(ast.parse(path.read_text(encoding="utf-8"))):
                self.assertNotIsInstance(node, BARRED_NODES, path)
                if isinstance(node, ast.Name):
                    self.assertNotIn(node.id, BARRED_NAMES, path)
                if isinstance(node, ast.Constant):
                    self.assertNotIsInstance(node.value, (float, complex), path)
                    self.assertNotIn("%", node.value if isinstance(node.value, str) else "", path)


if __name__ == "__main__":
    unittest.main()

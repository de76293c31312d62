"""The form of the package's files: their sizes, characters and imports."""

import ast
import pathlib
import unittest

import textorlist

FOLDER = pathlib.Path(textorlist.__file__).parent
FILES = sorted(FOLDER.rglob("*.py"))
LIBRARY = {"heapq", "math", "itertools"}


def trees():
    for path in FILES:
        yield path.name, ast.parse(path.read_text(encoding="ascii"))


class Form(unittest.TestCase):
    def test_only_python_files(self):
        for path in FOLDER.rglob("*"):
            if "__pycache__" not in path.parts:
                self.assertTrue(path.is_dir() or path.suffix == ".py", path)

    def test_sizes(self):
        for path in FILES:
            lines = path.read_text(encoding="ascii").splitlines()
            self.assertLessEqual(len(lines), 399, path.name)
            self.assertLessEqual(max([len(line) for line in lines], default=0), 120, path.name)

    def test_functions_are_small(self):
        for name, tree in trees():
            for node in ast.walk(tree):
                if isinstance(node, ast.FunctionDef):
                    self.assertLessEqual(node.end_lineno - node.lineno + 1, 40, (name, node.name))

    def test_characters(self):
        for path in FILES:
            for byte in path.read_bytes():
                self.assertTrue(byte == 10 or 32 <= byte <= 126, path.name)

    def test_imports(self):
        for name, tree in trees():
            for node in ast.walk(tree):
                self.assertNotIsInstance(node, ast.Import, name)
                if isinstance(node, ast.ImportFrom):
                    self.assertEqual(node.level, 0, name)
                    self.assertIn(node.module.split(".")[0], LIBRARY | {"textorlist", "__future__"}, name)
                    self.assertNotIn("*", [alias.name for alias in node.names], name)


if __name__ == "__main__":
    unittest.main()

import ast
import inspect
import pathlib
import subprocess
import sys
import unittest

import foldwalk
from foldwalk.errors import WalkError
from foldwalk.walk import cell_at, place_of, way_at

PACKAGE = pathlib.Path(foldwalk.__file__).parent

LARGE = """
from foldwalk.walk import cell_at, place_of, way_at
end = 4 ** 60
for place in list(range(100)) + list(range(end // 2 - 100, end // 2 + 100)) + list(range(end - 100, end - 1)):
    assert place_of(60, cell_at(60, place)) == place
    assert way_at(60, place) in ("R", "L", "U", "D")
print("answered")
"""


class Everywhere(unittest.TestCase):
    """Point 2, and the interface's names."""

    def test_large_floors_are_answered_at_once(self):
        # In a process of its own, so that an answer found cell by cell fails here and does not hang.
        done = subprocess.run(
            [sys.executable, "-c", LARGE], cwd=PACKAGE.parent, capture_output=True, text=True, timeout=60
        )
        self.assertEqual((done.stdout, done.stderr), ("answered\n", ""))

    def test_what_is_handed_in_is_not_changed(self):
        for folds, cell in ((3, (5, 2)), (60, (2 ** 60 - 1, 7))):
            numbers = list(cell)
            place_of(folds, cell)
            self.assertEqual(list(cell), numbers)
        cell = (8, 2)
        self.assertRaises(WalkError, place_of, 3, cell)
        self.assertEqual(cell, (8, 2))

    def test_the_same_is_answered_again(self):
        def asked():
            return [(cell_at(60, p), way_at(60, p), place_of(60, (p, p + 5))) for p in range(0, 4000, 97)]

        self.assertEqual(asked(), asked())

    def test_nothing_from_outside_is_drawn_in(self):
        files = sorted(PACKAGE.rglob("*.py"))
        self.assertTrue(files)
        for file in files:
            for node in ast.walk(ast.parse(file.read_text(encoding="utf-8"))):
                with self.subTest(file=file.name):
                    self.assertNotIsInstance(node, ast.Import)
                    if isinstance(node, ast.ImportFrom):
                        self.assertEqual(node.level, 0)
                        self.assertTrue(node.module.startswith("foldwalk."))
                    if isinstance(node, ast.Name):
                        self.assertNotIn(node.id, ("open", "input", "eval", "exec", "__import__", "hash", "id"))

    def test_arguments_by_their_names(self):
        self.assertEqual(list(inspect.signature(cell_at).parameters), ["folds", "place"])
        self.assertEqual(list(inspect.signature(place_of).parameters), ["folds", "cell"])
        self.assertEqual(list(inspect.signature(way_at).parameters), ["folds", "place"])
        self.assertEqual(cell_at(folds=2, place=5), (0, 3))
        self.assertEqual(place_of(folds=2, cell=(0, 3)), 5)
        self.assertEqual(way_at(folds=2, place=5), "R")


if __name__ == "__main__":
    unittest.main()

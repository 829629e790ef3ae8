import ast
import inspect
import pathlib
import subprocess
import sys
import unittest

import foldwalk
from foldwalk.counts import counted, nth
from foldwalk.errors import WalkError
from foldwalk.squares import square_at
from foldwalk.stretches import next_in, next_out, stretches
from foldwalk.walk import cell_at, place_of, way_at

PACKAGE = pathlib.Path(foldwalk.__file__).parent

LARGE = """
from foldwalk.counts import counted, nth
from foldwalk.errors import TooMany
from foldwalk.squares import square_at
from foldwalk.stretches import next_in, next_out, stretches
from foldwalk.walk import cell_at, place_of, way_at

end = 4 ** 60
last = 2 ** 60 - 1
boxes = [(0, 0, last, last), (0, 0, last, 0), (1, 1, last - 1, last - 1), (last // 3, 0, last // 3, last)]
for place in list(range(100)) + list(range(end // 2 - 100, end // 2 + 100)) + list(range(end - 100, end - 1)):
    assert place_of(60, cell_at(60, place)) == place
    assert way_at(60, place) in ("R", "L", "U", "D")
    assert square_at(60, place, 60) == boxes[0]
    for box in boxes:
        found = next_in(60, box, place)
        assert found is None or nth(60, box, counted(60, box, place)) == found
        assert next_out(60, box, place) != found
for box in boxes[1:]:
    for most in range(101):
        try:
            stretches(60, box, most)
        except TooMany:
            continue
        raise AssertionError(most)
print("answered")
"""

ROWS = (
    (cell_at, ["folds", "place"]),
    (place_of, ["folds", "cell"]),
    (way_at, ["folds", "place"]),
    (square_at, ["folds", "place", "size"]),
    (counted, ["folds", "box", "place"]),
    (nth, ["folds", "box", "number"]),
    (next_in, ["folds", "box", "place"]),
    (next_out, ["folds", "box", "place"]),
    (stretches, ["folds", "box", "most"]),
)


class Everywhere(unittest.TestCase):
    """Point 2, and the interface's names."""

    def test_large_floors_are_answered_at_once(self):
        # In a process of its own, so that an answer found cell by cell fails here and does not hang.
        done = subprocess.run(
            [sys.executable, "-c", LARGE], cwd=PACKAGE.parent, capture_output=True, text=True, timeout=120
        )
        self.assertEqual((done.stdout, done.stderr), ("answered\n", ""))

    def test_what_is_handed_in_is_not_changed(self):
        for folds, cell in ((3, (5, 2)), (60, (2 ** 60 - 1, 7))):
            numbers = list(cell)
            place_of(folds, cell)
            self.assertEqual(list(cell), numbers)
        cell = (8, 2)
        self.assertRaises(WalkError, place_of, 3, cell)
        self.assertEqual(cell, (8, 2))

    def test_boxes_handed_in_are_not_changed(self):
        for folds, box in ((3, (1, 2, 6, 5)), (60, (7, 2 ** 59 - 3, 2 ** 60 - 1, 2 ** 59))):
            numbers = list(box)
            for function in (counted, nth, next_in, next_out):
                function(folds, box, 5)
                self.assertRaises(WalkError, function, folds, box, -1)
            for most in (-1, 0):
                self.assertRaises(WalkError, stretches, folds, box, most)
            stretches(3, (1, 2, 6, 5))
            self.assertEqual(list(box), numbers)

    def test_the_same_is_answered_again(self):
        box = (2 ** 59 - 3, 2 ** 59 - 2, 2 ** 59, 2 ** 59 + 2)
        row = (0, 2 ** 58, 2 ** 60 - 1, 2 ** 58)

        def asked():
            walked = [(cell_at(60, p), way_at(60, p), place_of(60, (p, p + 5))) for p in range(0, 4000, 97)]
            squares = [square_at(60, 4 ** 59 + 7, size) for size in range(61)]
            counts = [(counted(60, row, 4 ** k), nth(60, row, 2 ** k - 1)) for k in range(61)]
            nexts = [(next_in(60, row, 4 ** k), next_out(60, box, 4 ** k)) for k in range(61)]
            return (walked, squares, counts, nexts, stretches(60, box))

        self.assertEqual(asked(), asked())

    def test_nothing_from_outside_is_drawn_in(self):
        files = sorted(PACKAGE.rglob("*.py"))
        self.assertTrue(files)
        for file in files:
            for node in ast.walk(ast.parse(file.read_text(encoding="utf-8"))):
                with self.subTest(file=file.name):
                    self.assertNotIsInstance(node, ast.Import)
                    if isinstance(node, ast.ImportFrom):
                        self.assertEqual(node.level, 0)
                        self.assertTrue(node.module.startswith("foldwalk."))
                    if isinstance(node, ast.Name):
                        self.assertNotIn(node.id, ("open", "input", "eval", "exec", "__import__", "hash", "id"))

    def test_arguments_by_their_names(self):
        for function, names in ROWS:
            with self.subTest(function=function.__name__):
                parameters = inspect.signature(function).parameters
                self.assertEqual(list(parameters), names)
                for name in names:
                    default = 16 if name == "most" else inspect.Parameter.empty
                    self.assertEqual(parameters[name].default, default)
        self.assertEqual(cell_at(folds=2, place=5), (0, 3))
        self.assertEqual(place_of(folds=2, cell=(0, 3)), 5)
        self.assertEqual(way_at(folds=2, place=5), "R")
        self.assertEqual(square_at(folds=2, place=5, size=1), (0, 2, 1, 3))
        self.assertEqual(counted(folds=2, box=(1, 1, 2, 2), place=8), 2)
        self.assertEqual(nth(folds=2, box=(1, 1, 2, 2), number=1), 7)
        self.assertEqual(next_in(folds=2, box=(1, 1, 2, 2), place=3), 7)
        self.assertEqual(next_out(folds=2, box=(1, 1, 2, 2), place=7), 9)
        self.assertEqual(stretches(folds=2, box=(1, 1, 2, 2), most=3), [(2, 2), (7, 8), (13, 13)])


if __name__ == "__main__":
    unittest.main()

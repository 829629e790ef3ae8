import unittest

from foldwalk.errors import NoCell, NoFloor, NoPlace
from foldwalk.walk import cell_at, place_of, way_at
from reference import FOLDS

FAR = 10 ** 99
NO_FOLDS = (-FAR, -61, -2, -1, 61, 62, 64, 1000, FAR)


class Refusals(unittest.TestCase):
    """Point 13, for what the walk's functions take."""

    def check_refused(self, error, function, folds, second):
        with self.subTest(function=function.__name__, folds=folds, second=second):
            with self.assertRaises(error):
                function(folds, second)

    def test_folds(self):
        for folds in NO_FOLDS:
            self.check_refused(NoFloor, cell_at, folds, 0)
            self.check_refused(NoFloor, place_of, folds, (0, 0))
            self.check_refused(NoFloor, way_at, folds, 0)

    def test_folds_at_the_ends_of_the_range_are_taken(self):
        self.assertEqual(cell_at(0, 0), (0, 0))
        self.assertEqual(place_of(0, (0, 0)), 0)
        self.assertEqual(cell_at(60, 0), (0, 0))
        self.assertEqual(place_of(60, (2 ** 60 - 1, 0)), 4 ** 60 - 1)
        # With an even number of folds the walk sets out to the right.
        self.assertEqual(way_at(60, 0), "R")
        self.assertEqual(way_at(1, 0), "U")

    def test_places_of_cells(self):
        for folds in FOLDS:
            every = 4 ** folds
            for place in (-FAR, -every, -2, -1, every, every + 1, 4 * every, FAR):
                self.check_refused(NoPlace, cell_at, folds, place)

    def test_places_of_steps(self):
        for folds in FOLDS:
            every = 4 ** folds
            for place in (-FAR, -every, -2, -1, every - 1, every, every + 1, 4 * every, FAR):
                self.check_refused(NoPlace, way_at, folds, place)

    def test_last_places_are_taken(self):
        for folds in FOLDS:
            with self.subTest(folds=folds):
                self.assertEqual(cell_at(folds, 4 ** folds - 1), (2 ** folds - 1, 0))
                if folds > 0:
                    self.assertIn(way_at(folds, 4 ** folds - 2), ("R", "D"))

    def test_cells(self):
        for folds in FOLDS:
            side = 2 ** folds
            for off in (-FAR, -side, -1, side, side + 1, 2 * side, FAR):
                for on in sorted({0, side // 2, side - 1}):
                    self.check_refused(NoCell, place_of, folds, (off, on))
                    self.check_refused(NoCell, place_of, folds, (on, off))
            for cell in ((-1, -1), (-1, side), (side, -1), (side, side), (-FAR, FAR)):
                self.check_refused(NoCell, place_of, folds, cell)

    def test_first_argument_goes_first(self):
        for folds in NO_FOLDS:
            for place in (-FAR, -1, 4 ** 61, FAR):
                self.check_refused(NoFloor, cell_at, folds, place)
                self.check_refused(NoFloor, way_at, folds, place)
            for cell in ((-1, 0), (0, -1), (2 ** 61, 0), (0, 2 ** 61), (-FAR, FAR)):
                self.check_refused(NoFloor, place_of, folds, cell)


if __name__ == "__main__":
    unittest.main()

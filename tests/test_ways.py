import unittest

from foldwalk.errors import NoPlace
from foldwalk.walk import cell_at, way_at
from reference import FOLDS, notable

MOVES = {"R": (1, 0), "L": (-1, 0), "U": (0, 1), "D": (0, -1)}


class Ways(unittest.TestCase):
    """Point 6."""

    def check_way(self, folds, place):
        way = way_at(folds, place)
        self.assertIs(type(way), str)
        self.assertIn(way, MOVES)
        x, y = cell_at(folds, place)
        right, up = MOVES[way]
        self.assertEqual(cell_at(folds, place + 1), (x + right, y + up))

    def test_as_written_out(self):
        self.assertEqual("".join(way_at(1, p) for p in range(3)), "URD")
        self.assertEqual("".join(way_at(2, p) for p in range(15)), "RULUURDRURDDLDR")

    def test_every_step_of_small_floors(self):
        for folds in range(7):
            with self.subTest(folds=folds):
                for place in range(4 ** folds - 1):
                    self.check_way(folds, place)

    def test_steps_of_all_floors(self):
        for folds in FOLDS:
            with self.subTest(folds=folds):
                for place in notable(folds):
                    if place < 4 ** folds - 1:
                        self.check_way(folds, place)

    def test_even_cells_at_even_places(self):
        for folds in FOLDS:
            places = range(4 ** folds) if folds < 6 else notable(folds)
            with self.subTest(folds=folds):
                for place in places:
                    self.assertEqual(sum(cell_at(folds, place)) % 2, place % 2)

    def test_no_step_from_the_last_place(self):
        for folds in FOLDS:
            with self.subTest(folds=folds):
                self.assertRaises(NoPlace, way_at, folds, 4 ** folds - 1)

    def test_no_step_on_a_floor_of_no_folds(self):
        for place in (-10 ** 40, -2, -1, 0, 1, 2, 3, 10 ** 40):
            with self.subTest(place=place):
                self.assertRaises(NoPlace, way_at, 0, place)


if __name__ == "__main__":
    unittest.main()

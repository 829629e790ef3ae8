import unittest

from foldwalk.walk import cell_at, place_of
from reference import FOLDS, laid, notable, scattered, walk

TWO_FOLDS = [
    (0, 0), (1, 0), (1, 1), (0, 1),
    (0, 2), (0, 3), (1, 3), (1, 2),
    (2, 2), (2, 3), (3, 3), (3, 2),
    (3, 1), (2, 1), (2, 0), (3, 0),
]


class TheWalk(unittest.TestCase):
    """Point 4."""

    def test_no_folds(self):
        self.assertEqual(cell_at(0, 0), (0, 0))
        self.assertEqual(place_of(0, (0, 0)), 0)

    def test_one_fold_as_written_out(self):
        self.assertEqual([cell_at(1, p) for p in range(4)], [(0, 0), (0, 1), (1, 1), (1, 0)])

    def test_two_folds_as_written_out(self):
        self.assertEqual([cell_at(2, p) for p in range(16)], TWO_FOLDS)
        self.assertEqual([place_of(2, cell) for cell in TWO_FOLDS], list(range(16)))

    def test_every_place_of_small_floors(self):
        for folds in range(8):
            with self.subTest(folds=folds):
                cells = [cell_at(folds, place) for place in range(4 ** folds)]
                self.assertEqual(cells, walk(folds))

    def test_four_rows_at_single_places_up_to_the_last_fold(self):
        for folds in range(60):
            side = 2 ** folds
            every = side * side
            for place in [0, every - 1, every // 2, every // 3] + scattered(every, 20):
                before = cell_at(folds, place)
                for quarter in range(4):
                    with self.subTest(folds=folds, place=place, quarter=quarter):
                        after = cell_at(folds + 1, place + quarter * every)
                        self.assertEqual(after, laid(before, side, quarter))


class PlacesAndCells(unittest.TestCase):
    """Points 3 and 5."""

    def check_is_cell(self, folds, cell):
        self.assertIs(type(cell), tuple)
        self.assertEqual(len(cell), 2)
        for number in cell:
            self.assertIs(type(number), int)
            self.assertTrue(0 <= number < 2 ** folds)

    def check_leads_back(self, folds, place):
        cell = cell_at(folds, place)
        self.check_is_cell(folds, cell)
        back = place_of(folds, cell)
        self.assertIs(type(back), int)
        self.assertEqual(back, place)

    def test_small_floors_both_ways(self):
        for folds in range(7):
            side = 2 ** folds
            with self.subTest(folds=folds):
                for place in range(side * side):
                    self.check_leads_back(folds, place)
                cells = [(x, y) for x in range(side) for y in range(side)]
                places = [place_of(folds, cell) for cell in cells]
                self.assertEqual(sorted(places), list(range(side * side)))
                self.assertEqual([cell_at(folds, place) for place in places], cells)

    def test_places_of_all_floors(self):
        for folds in FOLDS:
            with self.subTest(folds=folds):
                for place in notable(folds):
                    self.check_leads_back(folds, place)

    def test_cells_of_all_floors(self):
        for folds in FOLDS:
            side = 2 ** folds
            some = sorted({0, side // 3, (side - 1) // 2, side // 2, side - 1})
            for cell in [(x, y) for x in some for y in some]:
                with self.subTest(folds=folds, cell=cell):
                    place = place_of(folds, cell)
                    self.assertTrue(0 <= place < side * side)
                    self.assertEqual(cell_at(folds, place), cell)

    def test_begin_and_end(self):
        for folds in FOLDS:
            side = 2 ** folds
            with self.subTest(folds=folds):
                self.assertEqual(cell_at(folds, 0), (0, 0))
                self.assertEqual(cell_at(folds, side * side - 1), (side - 1, 0))
                self.assertEqual(place_of(folds, (0, 0)), 0)
                self.assertEqual(place_of(folds, (side - 1, 0)), side * side - 1)

    def test_backwards_it_is_its_mirror_picture(self):
        for folds in FOLDS:
            side = 2 ** folds
            places = range(4 ** folds) if folds < 6 else notable(folds)
            with self.subTest(folds=folds):
                for place in places:
                    x, y = cell_at(folds, place)
                    self.assertEqual(cell_at(folds, side * side - 1 - place), (side - 1 - x, y))


class HowNearCellsAre(unittest.TestCase):
    """The last sentence of point 7."""

    def check_near(self, first, second, size):
        columns = abs(first[0] - second[0])
        rows = abs(first[1] - second[1])
        self.assertLess(max(columns, rows), 2 * 2 ** size)
        self.assertLess(min(columns, rows), 2 ** size)

    def test_all_pairs_of_small_floors(self):
        for folds in range(5):
            cells = [cell_at(folds, place) for place in range(4 ** folds)]
            with self.subTest(folds=folds):
                for size in range(folds + 1):
                    for place, first in enumerate(cells):
                        for second in cells[place:place + 4 ** size]:
                            self.check_near(first, second, size)

    def test_some_pairs_of_large_floors(self):
        for folds in (10, 31, 32, 59, 60):
            every = 4 ** folds
            for size in range(folds + 1):
                reach = 4 ** size
                with self.subTest(folds=folds, size=size):
                    for gap in sorted({0, reach // 3, reach // 2, reach - 1}):
                        edges = [block * reach - gap // 2 for block in (1, 2, 3, every // reach // 2)]
                        for place in [0, every - 1 - gap] + edges + scattered(every, 4):
                            if 0 <= place and place + gap < every:
                                self.check_near(cell_at(folds, place), cell_at(folds, place + gap), size)


if __name__ == "__main__":
    unittest.main()

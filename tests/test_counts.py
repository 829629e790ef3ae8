import unittest

from foldwalk.counts import counted, nth
from foldwalk.squares import square_at
from foldwalk.walk import cell_at, place_of
from reference import (
    FOLDS, all_boxes, cells_of_box, large_boxes, lies_in, notable, scaled_box, scattered, size_of_box, small_boxes,
    some_boxes, walk,
)

LARGE = (5, 10, 31, 32, 59, 60)


class SmallFloors(unittest.TestCase):
    """Points 8, 9 and 10, against a count cell by cell."""

    def check_box(self, folds, cells, box):
        told = [counted(folds, box, place) for place in range(4 ** folds + 1)]
        places = [place for place, cell in enumerate(cells) if lies_in(cell, box)]
        counts = [0]
        for cell in cells:
            counts.append(counts[-1] + (1 if lies_in(cell, box) else 0))
        self.assertEqual(told, counts)
        self.assertEqual([nth(folds, box, number) for number in range(size_of_box(box))], places)

    def test_as_written_out(self):
        self.assertEqual([counted(1, (0, 1, 1, 1), place) for place in range(5)], [0, 0, 1, 2, 2])
        self.assertEqual([nth(1, (0, 1, 1, 1), number) for number in range(2)], [1, 2])
        self.assertEqual([nth(2, (1, 1, 2, 2), number) for number in range(4)], [2, 7, 8, 13])
        self.assertEqual([counted(2, (1, 1, 2, 2), place) for place in (0, 2, 3, 8, 9, 13, 14, 16)],
                         [0, 0, 1, 2, 3, 3, 4, 4])

    def test_all_boxes(self):
        for folds in range(4):
            cells = walk(folds)
            for box in all_boxes(2 ** folds):
                with self.subTest(folds=folds, box=box):
                    self.check_box(folds, cells, box)

    def test_some_boxes(self):
        for folds, number in ((4, 300), (5, 60), (6, 10)):
            cells = walk(folds)
            for box in some_boxes(2 ** folds, number):
                with self.subTest(folds=folds, box=box):
                    self.check_box(folds, cells, box)


class LargeFloors(unittest.TestCase):
    """Points 8, 9 and 10, where no count cell by cell would end."""

    def test_begin_and_end(self):
        for folds in FOLDS:
            for box in large_boxes(folds) + small_boxes(folds)[::9]:
                with self.subTest(folds=folds, box=box):
                    self.assertEqual(counted(folds, box, 0), 0)
                    self.assertEqual(counted(folds, box, 4 ** folds), size_of_box(box))
                    self.assertIs(type(counted(folds, box, 4 ** folds)), int)

    def test_boxes_of_few_cells_against_their_places(self):
        for folds in LARGE:
            for box in small_boxes(folds):
                places = sorted(place_of(folds, cell) for cell in cells_of_box(box))
                with self.subTest(folds=folds, box=box):
                    for number, place in enumerate(places):
                        self.assertEqual(nth(folds, box, number), place)
                        self.assertEqual(counted(folds, box, place), number)
                        self.assertEqual(counted(folds, box, place + 1), number + 1)

    def test_boxes_of_one_cell_on_all_floors(self):
        for folds in FOLDS:
            for place in notable(folds)[::5]:
                box = cell_at(folds, place) * 2
                with self.subTest(folds=folds, place=place):
                    self.assertEqual(nth(folds, box, 0), place)
                    self.assertEqual((counted(folds, box, place), counted(folds, box, place + 1)), (0, 1))

    def test_whole_floors(self):
        for folds in FOLDS:
            box = (0, 0, 2 ** folds - 1, 2 ** folds - 1)
            with self.subTest(folds=folds):
                for place in notable(folds)[::3]:
                    self.assertEqual(counted(folds, box, place), place)
                    self.assertEqual(nth(folds, box, place), place)

    def test_squares_of_any_size(self):
        for folds in LARGE:
            for size in range(folds + 1):
                block = 4 ** size
                for place in [0, 4 ** folds - 1] + scattered(4 ** folds, 3):
                    start = place - place % block
                    box = square_at(folds, place, size)
                    with self.subTest(folds=folds, size=size, box=box):
                        self.assertEqual(counted(folds, box, start), 0)
                        self.assertEqual(counted(folds, box, place), place - start)
                        self.assertEqual(counted(folds, box, start + block), block)
                        self.assertEqual(counted(folds, box, 4 ** folds), block)
                        self.assertEqual(nth(folds, box, place - start), place)
                        self.assertEqual((nth(folds, box, 0), nth(folds, box, block - 1)), (start, start + block - 1))

    def test_boxes_of_whole_squares_are_those_of_a_smaller_floor(self):
        # The walk goes through the squares of a size in the order in which a smaller floor's walk goes through cells.
        for folds in (30, 60):
            for small in range(4):
                by = 2 ** (folds - small)
                cells = walk(small)
                for box in all_boxes(2 ** small)[::5]:
                    self.check_scaled(folds, box, by, [p for p, cell in enumerate(cells) if lies_in(cell, box)])

    def check_scaled(self, folds, box, by, blocks):
        large = scaled_box(box, by)
        cells = by * by
        with self.subTest(folds=folds, box=large):
            for number, block in enumerate(blocks):
                for further in (0, cells // 3, cells - 1):
                    self.assertEqual(nth(folds, large, number * cells + further), block * cells + further)
                    self.assertEqual(counted(folds, large, block * cells + further), number * cells + further)
                self.assertEqual(counted(folds, large, (block + 1) * cells), (number + 1) * cells)

    def test_number_and_place_lead_to_each_other(self):
        for folds in LARGE:
            for box in large_boxes(folds):
                size = size_of_box(box)
                with self.subTest(folds=folds, box=box):
                    for number in sorted({0, 1 % size, size // 3, size // 2, size - 1} | set(scattered(size, 8))):
                        place = nth(folds, box, number)
                        self.assertIs(type(place), int)
                        self.assertTrue(lies_in(cell_at(folds, place), box))
                        self.assertEqual(counted(folds, box, place), number)
                        self.assertEqual(counted(folds, box, place + 1), number + 1)

    def test_parts_of_a_box_come_to_the_whole(self):
        for folds in LARGE:
            for left, low, right, high in large_boxes(folds):
                column = (left + right) // 2
                row = (low + high) // 2
                box = (left, low, right, high)
                parts = [(left, low, column, row), (left, row + 1, column, high),
                         (column + 1, low, right, row), (column + 1, row + 1, right, high)]
                parts = [part for part in parts if part[0] <= part[2] and part[1] <= part[3]]
                with self.subTest(folds=folds, box=box):
                    for place in notable(folds)[::11]:
                        told = sum(counted(folds, part, place) for part in parts)
                        self.assertEqual(counted(folds, box, place), told)

    def test_backwards_it_is_the_mirrored_box(self):
        for folds in LARGE:
            last = 2 ** folds - 1
            for box in large_boxes(folds):
                mirrored = (last - box[2], box[1], last - box[0], box[3])
                with self.subTest(folds=folds, box=box):
                    for place in notable(folds)[::11]:
                        behind = size_of_box(box) - counted(folds, mirrored, 4 ** folds - place)
                        self.assertEqual(counted(folds, box, place), behind)


if __name__ == "__main__":
    unittest.main()

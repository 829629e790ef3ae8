import unittest

from foldwalk.squares import square_at
from foldwalk.walk import cell_at
from reference import FOLDS, cells_of_box, lies_in, notable, walk


def sizes_of(folds):
    return sorted({0, min(1, folds), folds // 3, folds // 2, max(folds - 1, 0), folds})


class Squares(unittest.TestCase):
    """Point 7."""

    def check_is_square(self, folds, square, size):
        self.assertIs(type(square), tuple)
        self.assertEqual([type(number) for number in square], [int] * 4)
        left, low, right, high = square
        self.assertEqual((left % 2 ** size, low % 2 ** size), (0, 0))
        self.assertEqual((right - left + 1, high - low + 1), (2 ** size, 2 ** size))
        self.assertTrue(0 <= left and right < 2 ** folds and 0 <= low and high < 2 ** folds)

    def test_as_written_out(self):
        self.assertEqual(square_at(0, 0, 0), (0, 0, 0, 0))
        self.assertEqual([square_at(1, p, 0) for p in range(4)],
                         [(0, 0, 0, 0), (0, 1, 0, 1), (1, 1, 1, 1), (1, 0, 1, 0)])
        self.assertEqual([square_at(2, p, 1) for p in range(16)],
                         [(0, 0, 1, 1)] * 4 + [(0, 2, 1, 3)] * 4 + [(2, 2, 3, 3)] * 4 + [(2, 0, 3, 1)] * 4)
        self.assertEqual([square_at(2, p, 2) for p in range(16)], [(0, 0, 3, 3)] * 16)

    def test_each_block_of_small_floors_has_the_cells_of_one_square(self):
        for folds in range(6):
            cells = walk(folds)
            for size in range(folds + 1):
                block = 4 ** size
                for start in range(0, 4 ** folds, block):
                    with self.subTest(folds=folds, size=size, start=start):
                        told = {square_at(folds, place, size) for place in range(start, start + block)}
                        self.assertEqual(len(told), 1)
                        square = told.pop()
                        self.check_is_square(folds, square, size)
                        self.assertEqual(sorted(cells[start:start + block]), sorted(cells_of_box(square)))

    def test_squares_of_small_floors_are_those_laid_out(self):
        for folds in range(6):
            for size in range(folds + 1):
                wide = 2 ** size
                starts = range(0, 2 ** folds, wide)
                laid_out = {(x, y, x + wide - 1, y + wide - 1) for x in starts for y in starts}
                told = [square_at(folds, place, size) for place in range(4 ** folds)]
                with self.subTest(folds=folds, size=size):
                    self.assertEqual(set(told), laid_out)
                    self.assertEqual(len(set(told[::4 ** size])), len(laid_out))

    def test_places_of_all_floors(self):
        for folds in FOLDS:
            for place in notable(folds):
                cell = cell_at(folds, place)
                for size in sizes_of(folds):
                    square = square_at(folds, place, size)
                    with self.subTest(folds=folds, place=place, size=size):
                        self.check_is_square(folds, square, size)
                        self.assertTrue(lies_in(cell, square))

    def test_edges_of_blocks_on_all_floors(self):
        for folds in FOLDS:
            for size in range(folds + 1):
                block = 4 ** size
                blocks = 4 ** folds // block
                for number in sorted({0, 1, blocks // 3, blocks // 2, blocks - 2, blocks - 1}):
                    if 0 <= number < blocks:
                        self.check_block(folds, size, number * block, block)

    def check_block(self, folds, size, start, block):
        with self.subTest(folds=folds, size=size, start=start):
            square = square_at(folds, start, size)
            for place in (start + block // 4, start + block // 2, start + block - 1):
                self.assertEqual(square_at(folds, place, size), square)
            if start > 0:
                self.assertNotEqual(square_at(folds, start - 1, size), square)
            if start + block < 4 ** folds:
                self.assertNotEqual(square_at(folds, start + block, size), square)

    def test_least_and_greatest_size(self):
        for folds in FOLDS:
            last = 2 ** folds - 1
            for place in notable(folds)[::7]:
                with self.subTest(folds=folds, place=place):
                    self.assertEqual(square_at(folds, place, 0), cell_at(folds, place) * 2)
                    self.assertEqual(square_at(folds, place, folds), (0, 0, last, last))


if __name__ == "__main__":
    unittest.main()

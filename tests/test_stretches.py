import bisect
import unittest

from foldwalk.errors import TooMany
from foldwalk.squares import square_at
from foldwalk.stretches import next_in, next_out, stretches
from foldwalk.walk import cell_at, place_of
from reference import (
    FOLDS, all_boxes, cells_of_box, large_boxes, lies_in, notable, runs, scaled_box, scattered, small_boxes,
    some_boxes, walk,
)

LARGE = (5, 10, 31, 32, 59, 60)


def next_places(flags, wanted):
    """For each place, and the one behind the last, the next place whose flag is the wanted one, or None."""
    found = [None]
    for place in range(len(flags) - 1, -1, -1):
        found.append(place if flags[place] == wanted else found[-1])
    return found[::-1]


def places_of_box(folds, box):
    return sorted(place_of(folds, cell) for cell in cells_of_box(box))


class NextOnSmallFloors(unittest.TestCase):
    """Point 11, against a search cell by cell."""

    def check_box(self, folds, cells, box):
        flags = [lies_in(cell, box) for cell in cells]
        asked = range(4 ** folds + 1)
        self.assertEqual([next_in(folds, box, place) for place in asked], next_places(flags, True))
        self.assertEqual([next_out(folds, box, place) for place in asked], next_places(flags, False))

    def test_as_written_out(self):
        self.assertEqual([next_in(1, (0, 1, 1, 1), p) for p in range(5)], [1, 1, 2, None, None])
        self.assertEqual([next_out(1, (0, 1, 1, 1), p) for p in range(5)], [0, 3, 3, 3, None])
        self.assertEqual([next_in(0, (0, 0, 0, 0), p) for p in range(2)], [0, None])
        self.assertEqual([next_out(0, (0, 0, 0, 0), p) for p in range(2)], [None, None])

    def test_all_boxes(self):
        for folds in range(4):
            cells = walk(folds)
            for box in all_boxes(2 ** folds):
                with self.subTest(folds=folds, box=box):
                    self.check_box(folds, cells, box)

    def test_some_boxes(self):
        for folds, number in ((4, 200), (5, 40), (6, 8)):
            cells = walk(folds)
            for box in some_boxes(2 ** folds, number):
                with self.subTest(folds=folds, box=box):
                    self.check_box(folds, cells, box)


class NextOnLargeFloors(unittest.TestCase):
    """Point 11, where no search cell by cell would end."""

    def test_boxes_of_few_cells_against_their_places(self):
        for folds in LARGE:
            every = 4 ** folds
            for box in small_boxes(folds):
                places = places_of_box(folds, box)
                inside = set(places)
                near = {0, every - 1, every} | {place + k for place in places for k in (-1, 0, 1)}
                with self.subTest(folds=folds, box=box):
                    for place in sorted(near):
                        if 0 <= place <= every:
                            at = bisect.bisect_left(places, place)
                            self.assertEqual(next_in(folds, box, place), places[at] if at < len(places) else None)
                            out = place
                            while out in inside:
                                out += 1
                            self.assertEqual(next_out(folds, box, place), out if out < every else None)

    def test_behind_the_last_cell(self):
        for folds in FOLDS:
            for box in small_boxes(folds)[::5]:
                last = places_of_box(folds, box)[-1]
                with self.subTest(folds=folds, box=box):
                    self.assertEqual(next_in(folds, box, last), last)
                    self.assertIsNone(next_in(folds, box, last + 1))
                    self.assertIsNone(next_in(folds, box, 4 ** folds))

    def test_place_behind_the_walk(self):
        for folds in FOLDS:
            for box in large_boxes(folds):
                with self.subTest(folds=folds, box=box):
                    self.assertIsNone(next_in(folds, box, 4 ** folds))
                    self.assertIsNone(next_out(folds, box, 4 ** folds))

    def test_whole_floors(self):
        for folds in FOLDS:
            box = (0, 0, 2 ** folds - 1, 2 ** folds - 1)
            with self.subTest(folds=folds):
                for place in notable(folds)[::5]:
                    self.assertEqual(next_in(folds, box, place), place)
                    self.assertIsNone(next_out(folds, box, place))

    def test_squares_of_any_size(self):
        for folds in LARGE:
            every = 4 ** folds
            for size in range(folds + 1):
                block = 4 ** size
                for place in [0, every - 1] + scattered(every, 3):
                    start = place - place % block
                    end = start + block
                    box = square_at(folds, place, size)
                    with self.subTest(folds=folds, size=size, box=box):
                        for asked in (start, place, end - 1):
                            self.assertEqual(next_in(folds, box, asked), asked)
                            self.assertEqual(next_out(folds, box, asked), end if end < every else None)
                        self.assertEqual(next_in(folds, box, 0), start)
                        self.assertEqual(next_in(folds, box, max(start - 1, 0)), start)
                        self.assertIsNone(next_in(folds, box, end))
                        self.assertEqual(next_out(folds, box, end), end if end < every else None)

    def test_around_the_cells_at_the_edges_of_large_boxes(self):
        for folds in LARGE:
            for box in large_boxes(folds):
                left, low, right, high = box
                cells = [(x, y) for x in {left, (left + right) // 2, right} for y in {low, (low + high) // 2, high}]
                with self.subTest(folds=folds, box=box):
                    for cell in cells:
                        place = place_of(folds, cell)
                        for near in range(max(0, place - 3), min(4 ** folds, place + 3) + 1):
                            self.check_near(folds, box, near)

    def check_near(self, folds, box, place):
        every = 4 ** folds
        inside = place < every and lies_in(cell_at(folds, place), box)
        here, there = (next_in, next_out) if inside else (next_out, next_in)
        self.assertEqual(here(folds, box, place), place if place < every else None)
        found = there(folds, box, place)
        if found is None:
            self.assertTrue(place == every or lies_in(cell_at(folds, every - 1), box) == inside)
        else:
            self.assertIs(type(found), int)
            self.assertGreater(found, place)
            self.assertEqual(lies_in(cell_at(folds, found), box), not inside)
            self.assertEqual(lies_in(cell_at(folds, found - 1), box), inside)
            for between in (place + (found - place) // 3, place + (found - place) // 2):
                self.assertEqual(lies_in(cell_at(folds, between), box), inside)


class StretchesOneByOne(unittest.TestCase):
    """Point 12, against the stretches found cell by cell."""

    def check_stretches(self, folds, box, expected):
        number = len(expected)
        self.check_asked(expected, 16, (folds, box))
        for most in sorted({0, 1, number - 1, number, number + 1, 16, 100}):
            if 0 <= most <= 100:
                self.check_asked(expected, most, (folds, box, most))

    def check_asked(self, expected, most, arguments):
        if len(expected) > most:
            self.assertRaises(TooMany, stretches, *arguments)
        else:
            self.assertEqual(stretches(*arguments), expected)

    def test_as_written_out(self):
        self.assertEqual(stretches(0, (0, 0, 0, 0)), [(0, 0)])
        self.assertEqual(stretches(1, (0, 0, 1, 0)), [(0, 0), (3, 3)])
        self.assertEqual(stretches(1, (0, 1, 1, 1)), [(1, 2)])
        self.assertEqual(stretches(2, (1, 1, 2, 2)), [(2, 2), (7, 8), (13, 13)])
        self.assertEqual(stretches(2, (0, 0, 3, 3)), [(0, 15)])
        self.assertEqual(stretches(2, (0, 0, 3, 0)), [(0, 1), (14, 15)])

    def test_all_boxes(self):
        for folds in range(4):
            cells = walk(folds)
            for box in all_boxes(2 ** folds):
                with self.subTest(folds=folds, box=box):
                    expected = runs([place for place, cell in enumerate(cells) if lies_in(cell, box)])
                    self.check_stretches(folds, box, expected)

    def test_very_many_boxes(self):
        for folds, number in ((4, 1500), (5, 500), (6, 100), (7, 30), (8, 10)):
            cells = walk(folds)
            for box in some_boxes(2 ** folds, number):
                with self.subTest(folds=folds, box=box):
                    expected = runs([place for place, cell in enumerate(cells) if lies_in(cell, box)])
                    self.check_stretches(folds, box, expected)

    def test_about_a_hundred_stretches(self):
        for folds in (8, 9, 60):
            met = set()
            for right in range(150, 256):
                for box in ((0, 1, right, 1), (1, 0, 1, right)):
                    expected = runs(places_of_box(folds, box))
                    met.add(len(expected))
                    if 98 <= len(expected) <= 103:
                        with self.subTest(folds=folds, box=box):
                            self.check_stretches(folds, box, expected)
            self.assertTrue({99, 100, 101} <= met)

    def test_sixteen_where_no_most_is_told(self):
        cells = walk(5)
        met = set()
        for box in some_boxes(32, 3000):
            expected = runs([place for place, cell in enumerate(cells) if lies_in(cell, box)])
            if len(expected) in (15, 16, 17):
                met.add(len(expected))
                with self.subTest(box=box):
                    self.check_asked(expected, 16, (5, box))
        self.assertEqual(met, {15, 16, 17})


class StretchesOfLargeFloors(unittest.TestCase):
    """Points 2 and 12, where neither cells nor stretches can be gone through."""

    def test_boxes_of_few_cells_against_their_places(self):
        for folds in LARGE:
            for box in small_boxes(folds):
                expected = runs(places_of_box(folds, box))
                with self.subTest(folds=folds, box=box):
                    self.assertEqual(stretches(folds, box), expected)
                    self.assertEqual(stretches(folds, box, len(expected)), expected)
                    self.assertRaises(TooMany, stretches, folds, box, len(expected) - 1)

    def test_boxes_of_whole_squares_are_those_of_a_smaller_floor(self):
        for folds in (30, 60):
            for small in range(5):
                by = 2 ** (folds - small)
                cells = walk(small)
                for box in all_boxes(2 ** small)[::5 if small < 4 else 97]:
                    blocks = runs([place for place, cell in enumerate(cells) if lies_in(cell, box)])
                    expected = [(first * by * by, (last + 1) * by * by - 1) for first, last in blocks]
                    with self.subTest(folds=folds, box=box, by=by):
                        self.assertEqual(stretches(folds, scaled_box(box, by), 100), expected)
                        self.assertRaises(TooMany, stretches, folds, scaled_box(box, by), len(expected) - 1)

    def test_whole_floors(self):
        for folds in FOLDS:
            box = (0, 0, 2 ** folds - 1, 2 ** folds - 1)
            with self.subTest(folds=folds):
                self.assertEqual(stretches(folds, box), [(0, 4 ** folds - 1)])
                self.assertEqual(stretches(folds, box, 1), [(0, 4 ** folds - 1)])
                self.assertRaises(TooMany, stretches, folds, box, 0)

    def test_both_ends_of_the_walk(self):
        for folds in FOLDS:
            last = 2 ** folds - 1
            with self.subTest(folds=folds):
                self.assertEqual(stretches(folds, (0, 0, 0, 0), 1), [(0, 0)])
                self.assertEqual(stretches(folds, (last, 0, last, 0), 1), [(4 ** folds - 1, 4 ** folds - 1)])

    def test_boxes_of_very_many_stretches_are_refused(self):
        last = 2 ** 60 - 1
        half = 2 ** 59
        third = last // 3
        for box in ((0, 0, last, 0), (0, 0, 0, last), (last, 0, last, last), (0, last, last, last),
                    (half, 0, half, last), (0, half, last, half), (third, 0, third, last), (0, third, last, third),
                    (1, 0, last, last), (0, 1, last, last), (0, 0, last - 1, last), (0, 0, last, last - 1),
                    (1, 1, last - 1, last - 1), (third, third, 2 * third, 2 * third)):
            for most in (0, 1, 16, 99, 100):
                with self.subTest(box=box, most=most):
                    self.assertRaises(TooMany, stretches, 60, box, most)
            self.assertRaises(TooMany, stretches, 60, box)

    def test_none_asked_for_is_too_many_always(self):
        for folds in FOLDS:
            for box in large_boxes(folds) + small_boxes(folds)[::9]:
                with self.subTest(folds=folds, box=box):
                    self.assertRaises(TooMany, stretches, folds, box, 0)


class ListsTold(unittest.TestCase):
    """Points 2 and 12: lists of tuples, each list the asker's own."""

    def test_kinds(self):
        for folds, box in ((0, (0, 0, 0, 0)), (2, (1, 1, 2, 2)), (60, (2 ** 59 - 1, 2 ** 59 - 1, 2 ** 59, 2 ** 59))):
            told = stretches(folds, box)
            self.assertIs(type(told), list)
            for stretch in told:
                self.assertIs(type(stretch), tuple)
                self.assertEqual([type(number) for number in stretch], [int, int])

    def test_each_list_is_a_new_one(self):
        box = (1, 1, 2, 2)
        kept = stretches(2, box)
        other = stretches(2, box)
        self.assertIsNot(kept, other)
        other.append((99, 99))
        other[0] = None
        self.assertEqual(kept, [(2, 2), (7, 8), (13, 13)])
        other.clear()
        self.assertEqual(stretches(2, box), [(2, 2), (7, 8), (13, 13)])
        stretches(3, (0, 0, 4, 4))
        self.assertRaises(TooMany, stretches, 2, box, 2)
        self.assertEqual(kept, [(2, 2), (7, 8), (13, 13)])


if __name__ == "__main__":
    unittest.main()

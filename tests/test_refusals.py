import unittest

from foldwalk.counts import counted, nth
from foldwalk.errors import NoBox, NoCell, NoFloor, NoNumber, NoPlace, NoSquare, TooMany
from foldwalk.squares import square_at
from foldwalk.stretches import next_in, next_out, stretches
from foldwalk.walk import cell_at, place_of, way_at
from reference import FOLDS, large_boxes, size_of_box

FAR = 10 ** 99
NO_FOLDS = (-FAR, -61, -2, -1, 61, 62, 64, 1000, FAR)
CORNER = (0, 0, 0, 0)

# What each function takes behind the folds on every floor of one fold or more.
TAKEN = (
    (cell_at, (0,)),
    (place_of, ((0, 0),)),
    (way_at, (0,)),
    (square_at, (0, 0)),
    (counted, (CORNER, 0)),
    (nth, (CORNER, 0)),
    (next_in, (CORNER, 0)),
    (next_out, (CORNER, 0)),
    (stretches, (CORNER,)),
    (stretches, (CORNER, 1)),
)
# What is refused behind the folds on every floor, each argument by itself and all together.
REFUSED = (
    (cell_at, ((-1,), (4 ** 61,), (-FAR,), (FAR,))),
    (place_of, (((-1, 0),), ((0, -1),), ((2 ** 61, 0),), ((0, 2 ** 61),), ((-FAR, FAR),))),
    (way_at, ((-1,), (4 ** 61,), (-FAR,), (FAR,))),
    (square_at, ((-1, 0), (0, -1), (0, 61), (FAR, FAR), (-1, -1))),
    (counted, (((0, 0, -1, 0), 0), (CORNER, -1), (CORNER, FAR), ((0, 0, FAR, 0), -1))),
    (nth, (((0, 0, -1, 0), 0), (CORNER, -1), (CORNER, 1), ((0, 0, FAR, 0), -1))),
    (next_in, (((0, 0, -1, 0), 0), (CORNER, -1), (CORNER, FAR), ((0, 0, FAR, 0), -1))),
    (next_out, (((0, 0, -1, 0), 0), (CORNER, -1), (CORNER, FAR), ((0, 0, FAR, 0), -1))),
    (stretches, (((0, 0, -1, 0),), (CORNER, -1), (CORNER, 101), (CORNER, 0), ((0, 0, FAR, 0), FAR))),
)
# The functions of a box, with a last argument that they take for any box.
OF_BOXES = ((counted, 0), (nth, 0), (next_in, 0), (next_out, 0), (stretches, 100))


def no_places(end):
    """Places out of a range from 0 to end - 1, by one and by far."""
    return (-FAR, -end, -2, -1, end, end + 1, 4 * end, FAR)


def off_floor_boxes(side):
    """Boxes with their ends in order, but off the floor at each of its sides."""
    last = side - 1
    found = []
    for by in (1, 2, side, FAR):
        found += [(-by, 0, last, last), (0, -by, last, last), (0, 0, last + by, last), (0, 0, last, last + by)]
        found += [(-by, 0, -by, last), (0, -by, last, -by), (last + by, 0, last + by, last)]
        found += [(0, last + by, last, last + by), (-by, -by, last + by, last + by), (-by, -by, -by, -by)]
        found += [(last + by, last + by, last + by, last + by)]
    return found


def turned_boxes(side):
    """Boxes on the floor, but with their ends turned about in columns, in rows, in both."""
    found = []
    for more, less in ((1, 0), (side - 1, 0), (side - 1, side - 2), (side // 2, side // 2 - 1)):
        found += [(more, 0, less, side - 1), (0, more, side - 1, less), (more, more, less, less)]
        found += [(more, 0, less, 0), (side - 1, more, side - 1, less)]
    return found


class Refusals(unittest.TestCase):
    """Point 13."""

    def check_refused(self, error, function, *arguments):
        with self.subTest(function=function.__name__, arguments=arguments):
            with self.assertRaises(error) as caught:
                function(*arguments)
            self.assertIs(type(caught.exception), error)

    def test_folds(self):
        for folds in NO_FOLDS:
            for function, taken in TAKEN:
                self.check_refused(NoFloor, function, folds, *taken)

    def test_folds_at_the_ends_of_the_range_are_taken(self):
        self.assertEqual(cell_at(0, 0), (0, 0))
        self.assertEqual(place_of(0, (0, 0)), 0)
        self.assertEqual(cell_at(60, 0), (0, 0))
        self.assertEqual(place_of(60, (2 ** 60 - 1, 0)), 4 ** 60 - 1)
        # With an even number of folds the walk sets out to the right.
        self.assertEqual(way_at(60, 0), "R")
        self.assertEqual(way_at(1, 0), "U")
        for folds in (0, 60):
            self.assertEqual(square_at(folds, 0, 0), CORNER)
            self.assertEqual(counted(folds, CORNER, 1), 1)
            self.assertEqual(nth(folds, CORNER, 0), 0)
            self.assertEqual(next_in(folds, CORNER, 0), 0)
            self.assertEqual(next_out(folds, CORNER, 0), 1 if folds else None)
            self.assertEqual(stretches(folds, CORNER), [(0, 0)])

    def test_places_of_cells(self):
        for folds in FOLDS:
            for place in no_places(4 ** folds):
                self.check_refused(NoPlace, cell_at, folds, place)
                for size in sorted({0, folds // 2, folds}):
                    self.check_refused(NoPlace, square_at, folds, place, size)

    def test_places_of_steps(self):
        for folds in FOLDS:
            for place in no_places(4 ** folds) + (4 ** folds - 1,):
                self.check_refused(NoPlace, way_at, folds, place)

    def test_places_up_to_all(self):
        for folds in FOLDS:
            last = 2 ** folds - 1
            for box in (CORNER, (0, 0, last, last), (last, 0, last, last)):
                for place in no_places(4 ** folds + 1):
                    for function in (counted, next_in, next_out):
                        self.check_refused(NoPlace, function, folds, box, place)

    def test_last_places_are_taken(self):
        for folds in FOLDS:
            every = 4 ** folds
            last = 2 ** folds - 1
            with self.subTest(folds=folds):
                self.assertEqual(cell_at(folds, every - 1), (last, 0))
                self.assertEqual(square_at(folds, every - 1, 0), (last, 0, last, 0))
                self.assertEqual(counted(folds, CORNER, every), 1)
                self.assertIsNone(next_in(folds, CORNER, every))
                self.assertIsNone(next_out(folds, CORNER, every))
                if folds > 0:
                    self.assertIn(way_at(folds, every - 2), ("R", "D"))

    def test_cells(self):
        for folds in FOLDS:
            side = 2 ** folds
            for off in (-FAR, -side, -1, side, side + 1, 2 * side, FAR):
                for on in sorted({0, side // 2, side - 1}):
                    self.check_refused(NoCell, place_of, folds, (off, on))
                    self.check_refused(NoCell, place_of, folds, (on, off))
            for cell in ((-1, -1), (-1, side), (side, -1), (side, side), (-FAR, FAR)):
                self.check_refused(NoCell, place_of, folds, cell)

    def test_sizes(self):
        for folds in FOLDS:
            for size in (-FAR, -folds - 1, -2, -1, folds + 1, folds + 2, folds + 61, FAR):
                for place in sorted({0, 4 ** folds // 2, 4 ** folds - 1}):
                    self.check_refused(NoSquare, square_at, folds, place, size)

    def test_boxes_off_the_floor(self):
        for folds in FOLDS:
            for box in off_floor_boxes(2 ** folds):
                for function, last in OF_BOXES:
                    self.check_refused(NoBox, function, folds, box, last)

    def test_boxes_with_their_ends_turned_about(self):
        for folds in FOLDS[1:]:
            for box in turned_boxes(2 ** folds):
                for function, last in OF_BOXES:
                    self.check_refused(NoBox, function, folds, box, last)

    def test_boxes_turned_about_off_the_floor(self):
        for folds in FOLDS:
            side = 2 ** folds
            for box in ((side, 0, -1, 0), (0, side, 0, -1), (0, 0, -1, 0), (0, 0, 0, -1), (side, 0, 0, 0),
                        (0, side, 0, 0), (FAR, FAR, -FAR, -FAR)):
                for function, last in OF_BOXES:
                    self.check_refused(NoBox, function, folds, box, last)
                self.check_refused(NoBox, stretches, folds, box)

    def test_numbers_of_a_box(self):
        for folds in FOLDS:
            for box in large_boxes(folds):
                size = size_of_box(box)
                for number in no_places(size):
                    self.check_refused(NoNumber, nth, folds, box, number)
                with self.subTest(folds=folds, box=box):
                    self.assertLess(nth(folds, box, 0), 4 ** folds)
                    self.assertLess(nth(folds, box, size - 1), 4 ** folds)

    def test_most_stretches(self):
        for folds in FOLDS:
            last = 2 ** folds - 1
            for most in (-FAR, -100, -2, -1, 101, 102, 1000, FAR):
                for box in (CORNER, (0, 0, last, last), (0, 0, last, 0)):
                    self.check_refused(NoNumber, stretches, folds, box, most)
            with self.subTest(folds=folds):
                self.assertEqual(stretches(folds, CORNER, 100), [(0, 0)])
                self.assertEqual(stretches(folds, CORNER, 1), [(0, 0)])

    def test_folds_go_first(self):
        for folds in NO_FOLDS:
            for function, rows in REFUSED:
                for refused in rows:
                    self.check_refused(NoFloor, function, folds, *refused)

    def test_place_goes_ahead_of_size(self):
        for folds in FOLDS:
            for place in (-FAR, -1, 4 ** folds, FAR):
                for size in (-FAR, -1, folds + 1, FAR):
                    self.check_refused(NoPlace, square_at, folds, place, size)

    def test_box_goes_ahead_of_what_stands_behind(self):
        for folds in FOLDS:
            side = 2 ** folds
            for box in ((0, 0, side, 0), (-1, 0, 0, 0), (0, 0, 0, side), (0, -1, 0, 0), (0, 0, -1, 0), (0, 0, 0, -1)):
                for last in (-FAR, -1, 0, 4 ** folds + 1, FAR):
                    for function, taken in OF_BOXES:
                        self.check_refused(NoBox, function, folds, box, last)

    def test_too_many_goes_last(self):
        last = 2 ** 60 - 1
        row = (0, 0, last, 0)
        self.check_refused(TooMany, stretches, 60, row)
        self.check_refused(TooMany, stretches, 60, row, 0)
        self.check_refused(TooMany, stretches, 60, row, 100)
        self.check_refused(NoNumber, stretches, 60, row, 101)
        self.check_refused(NoNumber, stretches, 60, row, -1)
        self.check_refused(NoBox, stretches, 60, (0, 0, last + 1, 0))
        self.check_refused(NoBox, stretches, 60, (0, 0, last + 1, 0), 0)
        self.check_refused(NoFloor, stretches, 61, row)
        self.check_refused(NoFloor, stretches, 61, row, 0)
        self.check_refused(TooMany, stretches, 0, CORNER, 0)
        self.check_refused(NoNumber, stretches, 0, CORNER, -1)


if __name__ == "__main__":
    unittest.main()

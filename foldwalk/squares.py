"""The squares that a floor is laid out with."""

from foldwalk.errors import NoSquare
from foldwalk.walk import cell_at, side_of


def check_size(size, folds):
    if size < 0 or size > folds:
        raise NoSquare("a square's size is from 0 to the folds of the floor")


def square_at(folds, place, size):
    # Folds and place are refused by cell_at, ahead of the size.
    cell = cell_at(folds, place)
    check_size(size, folds)
    width = side_of(size)
    left = cell[0] - cell[0] % width
    low = cell[1] - cell[1] % width
    return (left, low, left + width - 1, low + width - 1)

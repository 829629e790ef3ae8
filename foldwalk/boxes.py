"""Boxes of a floor: their bounds, their cells, and the parts of them that lie in the quarters of a fold."""

from foldwalk.errors import NoBox, NoNumber
from foldwalk.walk import out_of_quarter


def check_box(box, side):
    if box[0] < 0 or box[0] > box[2] or box[2] >= side:
        raise NoBox("the columns are not those of a box on this floor")
    if box[1] < 0 or box[1] > box[3] or box[3] >= side:
        raise NoBox("the rows are not those of a box on this floor")


# The functions differ in the numbers they take, so the end of the range is handed in.
def check_number(number, end):
    if number < 0 or number >= end:
        raise NoNumber("the number is out of its range for this box")


# None stands for the part of a box where it has no cell: a box has one at least.
def cells_in(box):
    if box is None:
        return 0
    return (box[2] - box[0] + 1) * (box[3] - box[1] + 1)


# Only the cells of the quarter come out of it onto the floor before, so what falls beside that floor is cut away.
def part_in(box, side, quarter):
    if box is None:
        return None
    corner = out_of_quarter((box[0], box[1]), side, quarter)
    other = out_of_quarter((box[2], box[3]), side, quarter)
    # The quarters are turned, so the upper right corner need not come out above or at the right.
    left = max(0, min(corner[0], other[0]))
    low = max(0, min(corner[1], other[1]))
    right = min(side - 1, max(corner[0], other[0]))
    high = min(side - 1, max(corner[1], other[1]))
    if left > right or low > high:
        return None
    return (left, low, right, high)

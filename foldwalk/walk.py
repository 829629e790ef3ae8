"""The walk through a floor: its cells, its places and the ways of its steps."""

from foldwalk.errors import NoCell, NoFloor, NoPlace

MOST_FOLDS = 60


def side_of(folds):
    side = 1
    for fold in range(folds):
        side = 2 * side
    return side


def cells_of(folds):
    side = side_of(folds)
    return side * side


def check_folds(folds):
    if folds < 0 or folds > MOST_FOLDS:
        raise NoFloor("a floor has from 0 to 60 folds")


# The functions differ in the places they take, so the end of the range is handed in.
def check_place(place, end):
    if place < 0 or place >= end:
        raise NoPlace("the place is out of its range on this floor")


def check_cell(cell, side):
    if min(cell) < 0 or max(cell) >= side:
        raise NoCell("the cell is not on this floor")


# The four rows of point 4, in their order: side is that of the floor before.
def into_quarter(cell, side, quarter):
    x = cell[0]
    y = cell[1]
    if quarter == 0:
        return (y, x)
    if quarter == 1:
        return (x, y + side)
    if quarter == 2:
        return (x + side, y + side)
    return (2 * side - 1 - y, side - 1 - x)


# The same four rows, solved for the cell of the floor before.
def out_of_quarter(cell, side, quarter):
    x = cell[0]
    y = cell[1]
    if quarter == 0:
        return (y, x)
    if quarter == 1:
        return (x, y - side)
    if quarter == 2:
        return (x - side, y - side)
    return (side - 1 - y, 2 * side - 1 - x)


def quarter_of(cell, side):
    if cell[0] < side:
        return 0 if cell[1] < side else 1
    return 3 if cell[1] < side else 2


def cell_at(folds, place):
    check_folds(folds)
    check_place(place, cells_of(folds))
    cell = (0, 0)
    side = 1
    rest = place
    # The last base-4 digit of a place belongs to the first fold, so the folds go upwards.
    for fold in range(folds):
        cell = into_quarter(cell, side, rest % 4)
        rest = rest // 4
        side = 2 * side
    return cell


def place_of(folds, cell):
    check_folds(folds)
    side = side_of(folds)
    check_cell(cell, side)
    place = 0
    inner = cell
    # Only the last fold's quarter can be seen from the cell itself, so the folds go downwards.
    for fold in range(folds):
        side = side // 2
        quarter = quarter_of(inner, side)
        place = 4 * place + quarter
        inner = out_of_quarter(inner, side, quarter)
    return place


def way_between(here, there):
    if there[0] > here[0]:
        return "R"
    if there[0] < here[0]:
        return "L"
    if there[1] > here[1]:
        return "U"
    return "D"


def way_at(folds, place):
    check_folds(folds)
    # No step leads on from the last place, so there is one step less than there are cells.
    check_place(place, cells_of(folds) - 1)
    return way_between(cell_at(folds, place), cell_at(folds, place + 1))

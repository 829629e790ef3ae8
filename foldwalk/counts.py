"""Counts of a box's cells along the walk, and the places of the cells so numbered."""

from foldwalk.boxes import cells_in, check_box, check_number, part_in
from foldwalk.walk import cells_of, check_folds, check_place, side_of


def count_ahead(folds, box, place):
    side = side_of(folds)
    # Behind the last place there is no quarter to go down into.
    if place == side * side:
        return cells_in(box)
    found = 0
    part = box
    rest = place
    for fold in range(folds):
        side = side // 2
        quarter = rest // (side * side)
        for ahead in range(quarter):
            found = found + cells_in(part_in(part, side, ahead))
        part = part_in(part, side, quarter)
        rest = rest % (side * side)
    return found


# Cells out of the box are numbered along the walk like those in it: inside says which of the two are meant.
def cells_held(part, side, inside):
    if inside:
        return cells_in(part)
    return side * side - cells_in(part)


# The quarter that holds the cell of a number, and the number of that cell among those of the quarter.
def quarter_holding(box, side, number, inside):
    rest = number
    for quarter in range(3):
        held = cells_held(part_in(box, side, quarter), side, inside)
        if rest < held:
            return (quarter, rest)
        rest = rest - held
    return (3, rest)


# None where there are not so many cells.
def place_numbered(folds, box, number, inside):
    side = side_of(folds)
    if number >= cells_held(box, side, inside):
        return None
    place = 0
    part = box
    rest = number
    for fold in range(folds):
        side = side // 2
        held = quarter_holding(part, side, rest, inside)
        place = 4 * place + held[0]
        part = part_in(part, side, held[0])
        rest = held[1]
    return place


def counted(folds, box, place):
    check_folds(folds)
    check_box(box, side_of(folds))
    check_place(place, cells_of(folds) + 1)
    return count_ahead(folds, box, place)


def nth(folds, box, number):
    check_folds(folds)
    check_box(box, side_of(folds))
    check_number(number, cells_in(box))
    return place_numbered(folds, box, number, True)

"""Where the walk is in a box next, where it is out of it next, and its stretches in the box."""

from foldwalk.boxes import cells_in, check_box, check_number
from foldwalk.counts import counted, place_numbered
from foldwalk.errors import TooMany
from foldwalk.walk import cells_of, check_folds, side_of

MOST_STRETCHES = 100


def next_in(folds, box, place):
    # Here and in next_out all that is to be refused is refused by counted.
    met = counted(folds, box, place)
    return place_numbered(folds, box, met, True)


def next_out(folds, box, place):
    met = counted(folds, box, place)
    return place_numbered(folds, box, place - met, False)


# The place behind the stretch that begins at first, where met cells of the box lie ahead of first.
def end_of_stretch(folds, box, first, met):
    end = place_numbered(folds, box, first - met, False)
    if end is None:
        return cells_of(folds)
    return end


def stretches(folds, box, most=16):
    check_folds(folds)
    check_box(box, side_of(folds))
    check_number(most, MOST_STRETCHES + 1)
    found = []
    met = 0
    # The cells met tell whether a stretch is left, so none is looked for beyond those asked for.
    while met < cells_in(box):
        if len(found) == most:
            raise TooMany("the box has more stretches than asked for")
        first = place_numbered(folds, box, met, True)
        end = end_of_stretch(folds, box, first, met)
        found.append((first, end - 1))
        met = met + end - first
    return found

"""What the tests measure the program by: the four rows of point 4, and places worth asking for."""

FOLDS = range(61)


def laid(cell, side, quarter):
    x, y = cell
    rows = (
        (y, x),
        (x, y + side),
        (x + side, y + side),
        (2 * side - 1 - y, side - 1 - x),
    )
    return rows[quarter]


def walk(folds):
    """Every cell of the walk, in order, each fold made from the fold before."""
    cells = [(0, 0)]
    for fold in range(folds):
        cells = [laid(cell, 2 ** fold, quarter) for quarter in range(4) for cell in cells]
    return cells


def scattered(end, number):
    """Some places from 0 to end - 1, spread over the walk, the same ones each time."""
    step = 0x9E3779B97F4A7C15F39CC0605CEDC835
    return sorted({(step * k * k + 3 * step // (k + 1)) % end for k in range(1, number + 1)})


def notable(folds):
    """Places near both ends, at the edges of blocks of 4 ** k places, and some in between."""
    end = 4 ** folds
    found = set(scattered(end, 10))
    for size in range(folds + 1):
        blocks = 4 ** (folds - size)
        for block in (0, 1, 2, 3, blocks // 3, blocks // 2, blocks - 1, blocks):
            for near in (-2, -1, 0, 1):
                found.add(block * 4 ** size + near)
    return sorted(place for place in found if 0 <= place < end)


def lies_in(cell, box):
    left, low, right, high = box
    return left <= cell[0] <= right and low <= cell[1] <= high


def cells_of_box(box):
    left, low, right, high = box
    return [(x, y) for x in range(left, right + 1) for y in range(low, high + 1)]


def size_of_box(box):
    left, low, right, high = box
    return (right - left + 1) * (high - low + 1)


def all_boxes(side):
    spans = [(first, last) for first in range(side) for last in range(first, side)]
    return [(left, low, right, high) for left, right in spans for low, high in spans]


def some_boxes(side, number):
    """Some boxes, spread over those of the floor, the same ones each time."""
    numbers = scattered(side ** 4, number)
    found = set()
    for number in numbers:
        a, b, c, d = (number // side ** k % side for k in range(4))
        found.add((min(a, b), min(c, d), max(a, b), max(c, d)))
    return sorted(found)


def runs(places):
    """The runs of places that follow each other, for places in their order."""
    found = []
    for place in places:
        if found and found[-1][1] == place - 1:
            found[-1] = (found[-1][0], place)
        else:
            found.append((place, place))
    return found


def edge_numbers(side):
    """Columns or rows at the floor's edges, at the edges of large and small squares, and some others."""
    near = {0, 1, 2, side // 4, side // 2, side // 3, 3 * side // 4, side - 1}
    near |= {number - 1 for number in near} | {number + 1 for number in near}
    return sorted(number for number in near if 0 <= number < side)


def small_boxes(folds):
    """Boxes of few cells on a floor of any size, many of them parted by the edges of squares."""
    side = 2 ** folds
    found = set()
    starts = edge_numbers(side)
    for k, left in enumerate(starts):
        for j, low in enumerate(starts):
            for wide, tall in ((1, 1), (1, 5), (6, 1), (2, 2), (3, 4)):
                # Every pair of starts, but not every form at each of them.
                if (k + 2 * j + wide) % 4 == 0 or left == low:
                    found.add((left, low, min(left + wide, side) - 1, min(low + tall, side) - 1))
    return sorted(found)


def scaled_box(box, by):
    left, low, right, high = box
    return (left * by, low * by, (right + 1) * by - 1, (high + 1) * by - 1)


def large_boxes(folds):
    """The floor, whole columns and rows, boxes up to the floor's edges and across its middle, and any others."""
    last = 2 ** folds - 1
    half = 2 ** folds // 2
    found = {(0, 0, last, last), (0, 0, last, 0), (0, 0, 0, last), (last, 0, last, last), (0, last, last, last)}
    found |= {(half, 0, half, last), (0, half, last, half), (last // 3, 0, last // 3, last)}
    found |= {(min(1, last), 0, last, last), (0, min(1, last), last, last)}
    found |= {(0, 0, max(0, last - 1), last), (0, 0, last, max(0, last - 1))}
    found |= {(half // 2, half // 2, half + half // 2, half + half // 2), (last // 3, last // 5, last, last)}
    return sorted(found | set(some_boxes(2 ** folds, 10)))

"""What the tests measure the program by: the four rows of point 4, and places worth asking for."""

FOLDS = range(61)


def laid(cell, side, quarter):
    x, y = cell
    rows = (
        (y, x),
        (x, y + side),
        (x + side, y + side),
        (2 * side - 1 - y, side - 1 - x),
    )
    return rows[quarter]


def walk(folds):
    """Every cell of the walk, in order, each fold made from the fold before."""
    cells = [(0, 0)]
    for fold in range(folds):
        cells = [laid(cell, 2 ** fold, quarter) for quarter in range(4) for cell in cells]
    return cells


def scattered(end, number):
    """Some places from 0 to end - 1, spread over the walk, the same ones each time."""
    step = 0x9E3779B97F4A7C15F39CC0605CEDC835
    return sorted({(step * k * k + 3 * step // (k + 1)) % end for k in range(1, number + 1)})


def notable(folds):
    """Places near both ends, at the edges of blocks of 4 ** k places, and some in between."""
    end = 4 ** folds
    found = set(scattered(end, 10))
    for size in range(folds + 1):
        blocks = 4 ** (folds - size)
        for block in (0, 1, 2, 3, blocks // 3, blocks // 2, blocks - 1, blocks):
            for near in (-2, -1, 0, 1):
                found.add(block * 4 ** size + near)
    return sorted(place for place in found if 0 <= place < end)

"""The values that the leaves of a band tree tell."""

from picturetide.pictures import BAND_ROWS, clipped
from picturetide.predictions import expected_motion, predicted
from picturetide.quanta import unlevelled
from picturetide.transforms import backward
from picturetide.trees import BLOCK, check_band_tree, leaves_of_band


def expected(rows, top, slots, area, way):
    """What is predicted in one way (mode, slot, dy, dx), with the rows of the band as far as they are known."""
    mode, slot, dy, dx = way
    if mode == "motion":
        return expected_motion(slots[slot], top, area, dy, dx)
    return predicted(rows, area, mode)


def changed(awaited, levels, q):
    """The values that levels make of those that are predicted, not clipped yet."""
    told = []
    for row, changes in zip(awaited, backward(unlevelled(levels, q))):
        told.append([value + change for value, change in zip(row, changes)])
    return told


def leaf_told(rows, top, slots, area, leaf):
    """The values of the area of a leaf, not clipped yet."""
    awaited = expected(rows, top, slots, area, leaf[1:5])
    return changed(awaited, leaf[6], leaf[5])


def put_area(rows, area, values):
    """Put the values of an area into rows, which are lists."""
    y, x, n = area
    for i, members in enumerate(values):
        rows[y + i][x:x + n] = members


def band_shown(trees, top, slots):
    """The 8 rows that a band tree tells; top is the number of the first one in the picture."""
    check_band_tree(trees)
    rows = [[0] * (BLOCK * len(trees)) for row in range(BAND_ROWS)]
    for y, x, n, leaf in leaves_of_band(trees):
        told = leaf_told(rows, top, slots, (y, x, n), leaf)
        put_area(rows, (y, x, n), [[clipped(value) for value in members] for members in told])
    return tuple([tuple(row) for row in rows])

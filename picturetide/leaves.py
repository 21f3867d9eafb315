"""The values that the leaves of a band tree tell."""

from picturetide.pictures import BAND_ROWS, clipped
from picturetide.predictions import expected_motion, predicted
from picturetide.quanta import unlevelled
from picturetide.transforms import backward
from picturetide.trees import BLOCK, check_band_tree, leaves_of_band


def expected(rows, top, slots, area, leaf):
    """What a leaf expects of its area, with the rows of the band as far as they are known."""
    _, mode, slot, dy, dx, _, _ = leaf
    if mode == "motion":
        return expected_motion(slots[slot], top, area, dy, dx)
    return predicted(rows, area, mode)


def leaf_shown(rows, top, slots, area, leaf):
    """The values of the area of a leaf."""
    _, _, _, _, _, q, levels = leaf
    changes = backward(unlevelled(levels, q))
    shown = []
    for row, changes_of_row in zip(expected(rows, top, slots, area, leaf), changes):
        shown.append([clipped(value + change) for value, change in zip(row, changes_of_row)])
    return shown


def band_shown(trees, top, slots):
    """The 8 rows that a band tree tells; top is the number of the first one in the picture."""
    check_band_tree(trees)
    rows = [[0] * (BLOCK * len(trees)) for row in range(BAND_ROWS)]
    for y, x, n, leaf in leaves_of_band(trees):
        shown = leaf_shown(rows, top, slots, (y, x, n), leaf)
        for i, values in enumerate(shown):
            rows[y + i][x:x + n] = values
    return tuple([tuple(row) for row in rows])

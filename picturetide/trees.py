"""Trees: how a block of 8 by 8 is split, what its parts are told by, and what that costs."""

from picturetide.basics import is_integer, is_integer_within, is_number_below
from picturetide.errors import InvalidTree
from picturetide.numbers import price_of, price_of_signed

BLOCK = 8
LEAST = 2
MOST_BLOCKS = 4
# The number of a mode or of a q is its place here.
MODES = ("flat", "down", "right", "slope", "motion")
QUANTA = (1, 2, 4, 8, 16, 32, 64)
SLOTS = 3
MOST_MOTION = 31
MOST_LEVEL = 2000
PARTS_OF_LEAF = 7
# Where the four quarters begin, in halves of the area.
QUARTERS = ((0, 0), (0, 1), (1, 0), (1, 1))


def is_told_prediction(mode, slot, dy, dx):
    """Tell of any values whether a leaf's prediction can be told by these."""
    if not is_number_below(slot, SLOTS):
        return False
    if not is_integer_within(dy, MOST_MOTION) or not is_integer_within(dx, MOST_MOTION):
        return False
    return mode == "motion" or (mode in MODES and (slot, dy, dx) == (0, 0, 0))


def is_row_of_levels(value, n):
    """Tell of any value whether it is a row of n levels."""
    if not isinstance(value, tuple) or len(value) != n:
        return False
    return all(is_integer_within(level, MOST_LEVEL) for level in value)


def is_square_of_levels(value, n):
    """Tell of any value whether it is a square of n rows of levels."""
    if not isinstance(value, tuple) or len(value) != n:
        return False
    return all(is_row_of_levels(row, n) for row in value)


def is_leaf(value, n):
    """Tell of any value whether it is a leaf of an area of n by n."""
    if not isinstance(value, tuple) or len(value) != PARTS_OF_LEAF or value[0] != "leaf":
        return False
    _, mode, slot, dy, dx, q, levels = value
    if not is_told_prediction(mode, slot, dy, dx):
        return False
    return is_integer(q) and q in QUANTA and is_square_of_levels(levels, n)


def is_split(value, n):
    """Tell of any value whether it is a split of an area of n by n."""
    if n == LEAST or not isinstance(value, tuple) or len(value) != 2 or value[0] != "split":
        return False
    parts = value[1]
    if not isinstance(parts, tuple) or len(parts) != len(QUARTERS):
        return False
    return all(is_tree(part, n // 2) for part in parts)


def is_tree(value, n):
    """Tell of any value whether it is a tree of an area of n by n."""
    return is_leaf(value, n) or is_split(value, n)


def is_some_band_tree(value):
    """Tell of any value whether it is a band tree of any number of blocks."""
    if not isinstance(value, tuple) or not 1 <= len(value) <= MOST_BLOCKS:
        return False
    return all(is_tree(tree, BLOCK) for tree in value)


def is_band_tree(value, blocks):
    """Tell of any value whether it is a band tree of so many blocks."""
    return is_some_band_tree(value) and len(value) == blocks


def check_band_tree(trees):
    """Raise InvalidTree unless this is a band tree."""
    if not is_some_band_tree(trees):
        raise InvalidTree(trees)


def size_of_tree(tree):
    """The number of rows of the area of a tree; InvalidTree if it is none."""
    for n in (BLOCK, BLOCK // 2, LEAST):
        if is_tree(tree, n):
            return n
    raise InvalidTree(tree)


def quarters_of(area):
    """The areas of the four parts of a split, in their order."""
    y, x, n = area
    half = n // 2
    return [(y + down * half, x + right * half, half) for down, right in QUARTERS]


def leaves_within(tree, area):
    """The leaves of the tree of an area, each behind its own area."""
    if tree[0] == "leaf":
        return [(*area, tree)]
    found = []
    for part, quarter in zip(tree[1], quarters_of(area)):
        found.extend(leaves_within(part, quarter))
    return found


def area_of_block(block):
    """The area of a block of a band."""
    return (0, BLOCK * block, BLOCK)


def leaves_of(tree):
    """The leaves of a tree in its order, each behind its own area."""
    return tuple(leaves_within(tree, (0, 0, size_of_tree(tree))))


def leaves_of_band(trees):
    """The leaves of what is known to be a band tree, each behind its own area of the band."""
    found = []
    for block, tree in enumerate(trees):
        found.extend(leaves_within(tree, area_of_block(block)))
    return found


def has_motion(trees):
    """Tell whether a leaf of this band tree is predicted from a kept picture."""
    return any(leaf[1] == "motion" for y, x, n, leaf in leaves_of_band(trees))


def is_band_tree_of_kind(value, blocks, kind):
    """Tell of any value whether it is a band tree of so many blocks that a picture of this kind can have."""
    return is_band_tree(value, blocks) and not (kind == "key" and has_motion(value))


def is_empty(levels):
    """Tell whether all levels are 0."""
    return not any(level for row in levels for level in row)


def price_of_leaf(leaf, n):
    """What a leaf of an area of n by n costs."""
    _, mode, slot, dy, dx, q, levels = leaf
    # Of 2 by 2 there are leaves alone, so that nothing tells that it is one.
    price = 1 if n == LEAST else 2
    price = price + price_of(MODES.index(mode)) + price_of(QUANTA.index(q))
    if mode == "motion":
        price = price + price_of(slot) + price_of_signed(dy) + price_of_signed(dx)
    if is_empty(levels):
        return price
    return price + sum([price_of_signed(level) for row in levels for level in row])


def price_within(tree, n):
    """What a tree of an area of n by n costs."""
    if tree[0] == "leaf":
        return price_of_leaf(tree, n)
    return 1 + sum([price_within(part, n // 2) for part in tree[1]])


def price_of_tree(tree):
    """What a tree costs."""
    return price_within(tree, size_of_tree(tree))


def price_of_band(trees):
    """What all trees of a band cost."""
    check_band_tree(trees)
    return sum([price_within(tree, BLOCK) for tree in trees])

"""Band trees written as octets, and read from them."""

from picturetide.coders import Coder, Decoder
from picturetide.numbers import get_number, get_signed, put_number, put_signed
from picturetide.trees import BLOCK, LEAST, MODES, QUANTA, QUARTERS
from picturetide.trees import check_band_tree, is_band_tree_of_kind, is_empty


def word_of_level(row, column):
    """The word with which a level is put: those of the coarsest members have words of their own."""
    if row == 0 and column == 0:
        return "low"
    return "mid" if row < 2 and column < 2 else "high"


def put_levels(coder, levels, n):
    """Put whether all levels are 0, and all of them if not."""
    empty = is_empty(levels)
    coder.put(("empty", n), 1 if empty else 0)
    if empty:
        return
    for row, members in enumerate(levels):
        for column, level in enumerate(members):
            put_signed(coder, word_of_level(row, column), level)


def get_levels(decoder, n):
    """Read what put_levels puts."""
    if decoder.get(("empty", n)) == 1:
        return ((0,) * n,) * n
    rows = []
    for row in range(n):
        rows.append(tuple([get_signed(decoder, word_of_level(row, column)) for column in range(n)]))
    return tuple(rows)


def put_leaf(coder, leaf, n):
    """Put a leaf of an area of n by n."""
    _, mode, slot, dy, dx, q, levels = leaf
    put_number(coder, "mode", MODES.index(mode))
    if mode == "motion":
        put_number(coder, "slot", slot)
        put_signed(coder, "dy", dy)
        put_signed(coder, "dx", dx)
    put_number(coder, "q", QUANTA.index(q))
    put_levels(coder, levels, n)


def member_of(members, number):
    """The member of this number, or None, which no tree holds, if there is none."""
    return members[number] if number < len(members) else None


def get_leaf(decoder, n):
    """Read what put_leaf puts; of other octets it may be no leaf."""
    mode = member_of(MODES, get_number(decoder, "mode"))
    slot = 0
    dy = 0
    dx = 0
    if mode == "motion":
        slot = get_number(decoder, "slot")
        dy = get_signed(decoder, "dy")
        dx = get_signed(decoder, "dx")
    q = member_of(QUANTA, get_number(decoder, "q"))
    return ("leaf", mode, slot, dy, dx, q, get_levels(decoder, n))


def put_tree(coder, tree, n):
    """Put a tree of an area of n by n."""
    is_split = tree[0] == "split"
    if n > LEAST:
        coder.put(("split", n), 1 if is_split else 0)
    if is_split:
        for part in tree[1]:
            put_tree(coder, part, n // 2)
    else:
        put_leaf(coder, tree, n)


def get_tree(decoder, n):
    """Read what put_tree puts; of other octets it may be no tree."""
    if n > LEAST and decoder.get(("split", n)) == 1:
        return ("split", tuple([get_tree(decoder, n // 2) for quarter in QUARTERS]))
    return get_leaf(decoder, n)


def band_octets(trees):
    """The octets of a band tree."""
    check_band_tree(trees)
    coder = Coder()
    for tree in trees:
        put_tree(coder, tree, BLOCK)
    return coder.octets()


def read_band(octets, blocks, kind):
    """The band tree of so many blocks whose octets these are, or None; in a key picture it has no motion."""
    decoder = Decoder(octets)
    trees = tuple([get_tree(decoder, BLOCK) for block in range(blocks)])
    if not is_band_tree_of_kind(trees, blocks, kind):
        return None
    return trees if band_octets(trees) == octets else None

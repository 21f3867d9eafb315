"""Values that several tests share."""

SIZES = (8, 16, 24, 32)
SHAPES = [(rows, columns) for rows in SIZES for columns in SIZES]
FAR = 10 ** 12


def picture_of(rows, columns, seed=0):
    """A picture in which neighbours differ, with both the least and the greatest value."""
    body = [[(37 * y + 101 * x + y * x + 59 * seed) % 256 for x in range(columns)] for y in range(rows)]
    body[0][columns - 1] = 0
    body[rows - 1][0] = 255
    return tuple(tuple(row) for row in body)


def with_value(picture, y, x, value):
    """The picture with another value at one place."""
    return with_row(picture, y, picture[y][:x] + (value,) + picture[y][x + 1:])


def with_row(picture, y, row):
    """The picture with another row."""
    return picture[:y] + (row,) + picture[y + 1:]


def nested(levels, kind):
    """Tuples or lists within one another."""
    value = kind()
    for _ in range(levels - 1):
        value = kind([value])
    return value


GOOD = picture_of(8, 8)

NO_VALUES = [-1, 256, -FAR, FAR, True, False, None, "", "0", "a", (), (0,), [], [0]]

NO_PICTURES = [
    0, 1, 8, -1, FAR, True, False, None,
    "", "a", "abcdefgh", "00" * 8, "/".join(["00" * 8] * 8),
    (), [], ((),), [[]], (None,), ((),) * 8, [[]] * 8, (8,) * 8, (None,) * 8, ("abcdefgh",) * 8,
    (((0,) * 8,) * 8,), (GOOD, GOOD), [GOOD], (GOOD,) * 8,
    nested(12, tuple), nested(12, list), (nested(11, tuple),) * 8,
    list(GOOD), [list(row) for row in GOOD], tuple(list(row) for row in GOOD),
    with_row(GOOD, 0, list(GOOD[0])), with_row(GOOD, 7, list(GOOD[7])),
    with_row(GOOD, 7, None), with_row(GOOD, 0, None), with_row(GOOD, 3, "abcdefgh"),
    GOOD[:7], GOOD + GOOD[:1], GOOD * 5, tuple(row[:7] for row in GOOD), tuple(row * 5 for row in GOOD),
    with_row(GOOD, 5, GOOD[5][:7]), with_row(GOOD, 5, GOOD[5] * 2), with_row(GOOD, 0, GOOD[0] * 2),
    with_value(GOOD, 7, 7, 256), with_value(GOOD, 0, 0, -1), with_value(GOOD, 4, 2, True),
    with_value(GOOD, 2, 4, None), with_value(GOOD, 2, 4, "0"), with_value(GOOD, 0, 1, (0,)),
]


MODES = ("flat", "down", "right", "slope", "motion")
QUANTA = (1, 2, 4, 8, 16, 32, 64)


def empty_levels(n):
    return ((0,) * n,) * n


def leaf_of(n, mode="flat", slot=0, dy=0, dx=0, q=1, levels=None):
    """A leaf whose levels are all 0 if none are told."""
    return ("leaf", mode, slot, dy, dx, q, empty_levels(n) if levels is None else levels)


def split_of(*parts):
    """A split of four trees, or of four times the same one."""
    return ("split", parts if len(parts) == 4 else parts * 4)


def motion_of(n, slot=0, dy=0, dx=0, q=1, levels=None):
    return leaf_of(n, "motion", slot, dy, dx, q, levels)


def drawn_levels(source, n):
    """Levels that are all 0, or few and small, or of every size."""
    sizes = source.choice([(0,), (0, 0, 0, 1, -1), (0, 1, -1, 2, -3, 5), (-2000, 2000, 1999, 0, -40, 700)])
    return tuple(tuple(source.choice(sizes) for _ in range(n)) for _ in range(n))


def drawn_leaf(source, n, modes=MODES):
    mode = source.choice(modes)
    slot, dy, dx = 0, 0, 0
    if mode == "motion":
        slot, dy, dx = source.randrange(3), source.randrange(-31, 32), source.randrange(-31, 32)
    return ("leaf", mode, slot, dy, dx, source.choice(QUANTA), drawn_levels(source, n))


def drawn_tree(source, n=8, modes=MODES):
    if n > 2 and source.randrange(2):
        return ("split", tuple(drawn_tree(source, n // 2, modes) for _ in range(4)))
    return drawn_leaf(source, n, modes)


def drawn_band(source, blocks, modes=MODES):
    return tuple(drawn_tree(source, 8, modes) for _ in range(blocks))


def drawn_picture(source, rows, columns, values=range(256)):
    return tuple(tuple(source.choice(values) for _ in range(columns)) for _ in range(rows))


NO_TREES = [
    0, 8, -1, True, False, None, "", "leaf", "split", "a", (), [], ((),), [[]], (None,), ("leaf",), ("split",),
    ("leaf", "flat"), ("split", ()), ("split", None), ("leaf", "flat", 0, 0, 0, 1), nested(12, tuple),
    nested(12, list), ("split", ("split", ("split", ("split",)))), ("flat", 0, 0, 0, 0, 1, ((0, 0), (0, 0))),
    leaf_of(3), leaf_of(6), leaf_of(16), leaf_of(1), leaf_of(0), list(leaf_of(8)), leaf_of(8) + (0,),
    leaf_of(8)[:6], leaf_of(8)[:5] + (empty_levels(8),), leaf_of(8, levels=[[0] * 8] * 8),
    leaf_of(8, levels=((0,) * 8,) * 7), leaf_of(8, levels=((0,) * 7,) * 8), leaf_of(4, levels=((0,) * 4,) * 3),
    leaf_of(8, levels=([0] * 8,) * 8), leaf_of(8, levels=[(0,) * 8] * 8), leaf_of(8, levels=()),
    leaf_of(8, levels=((True,) * 8,) * 8), leaf_of(2, levels=((0, 2001), (0, 0))), leaf_of(2, levels=((0, 0),) * 4),
    leaf_of(2, levels=((-2001, 0), (0, 0))), leaf_of(2, levels=((0, 0), (None, 0))),
    leaf_of(8, "Flat"), leaf_of(8, ""), leaf_of(8, "split"), leaf_of(8, None), leaf_of(8, 0), leaf_of(8, ["flat"]),
    leaf_of(8, slot=1), leaf_of(8, dy=1), leaf_of(8, dx=-1), leaf_of(8, "slope", 0, 0, 31), leaf_of(8, slot=False),
    leaf_of(8, dy=False), leaf_of(8, dx=False), motion_of(8, 3), motion_of(8, -1), motion_of(8, True),
    motion_of(8, 0, 32), motion_of(8, 0, -32), motion_of(8, 0, 0, 32), motion_of(8, 0, 0, -32),
    motion_of(8, 0, True), motion_of(8, 0, 0, False), motion_of(8, None), motion_of(8, 0, None), motion_of(8, "0"),
    leaf_of(8, q=0), leaf_of(8, q=3), leaf_of(8, q=128), leaf_of(8, q=-1), leaf_of(8, q=True), leaf_of(8, q=None),
    leaf_of(8, q=65), leaf_of(8, q="1"), leaf_of(8, q=(1,)),
    split_of(leaf_of(8)), split_of(leaf_of(4), leaf_of(4), leaf_of(4), leaf_of(2)), ("split", (leaf_of(4),) * 3),
    ("split", (leaf_of(4),) * 5), ("split", [leaf_of(4)] * 4), ["split", (leaf_of(4),) * 4],
    ("split", (leaf_of(4),) * 4, 0), ("leaf", (leaf_of(4),) * 4), ("Split", (leaf_of(4),) * 4),
    split_of(leaf_of(1)), split_of(split_of(leaf_of(1))), split_of(split_of(leaf_of(4))),
    split_of(split_of(split_of(leaf_of(1)))), split_of(split_of(split_of(leaf_of(2)))),
    split_of(leaf_of(4), leaf_of(4), leaf_of(4), split_of(leaf_of(2), leaf_of(2), leaf_of(2), list(leaf_of(2)))),
    split_of(split_of(leaf_of(2)), leaf_of(4), leaf_of(4), leaf_of(4, q=False)),
]

NO_BAND_TREES = NO_TREES + [(value,) for value in NO_TREES] + [(leaf_of(8), value) for value in NO_TREES] + [
    leaf_of(8), split_of(leaf_of(4)), [leaf_of(8)], (leaf_of(8),) * 5, (leaf_of(4),), (leaf_of(2),),
    (split_of(leaf_of(2)),), (leaf_of(8), leaf_of(4)), ((leaf_of(8),),), (leaf_of(8), leaf_of(8), leaf_of(8), None),
]


def is_made_of_integers(value):
    """Whether these are plain integers, or tuples of such and of tuples."""
    if isinstance(value, tuple):
        return type(value) is tuple and all(is_made_of_integers(part) for part in value)
    return type(value) is int

"""Values that several tests share."""

SIZES = (8, 16, 24, 32)
SHAPES = [(rows, columns) for rows in SIZES for columns in SIZES]
FAR = 10 ** 12


def picture_of(rows, columns, seed=0):
    """A picture in which neighbours differ, with both the least and the greatest value."""
    body = [[(37 * y + 101 * x + y * x + 59 * seed) % 256 for x in range(columns)] for y in range(rows)]
    body[0][columns - 1] = 0
    body[rows - 1][0] = 255
    return tuple(tuple(row) for row in body)


def with_value(picture, y, x, value):
    """The picture with another value at one place."""
    return with_row(picture, y, picture[y][:x] + (value,) + picture[y][x + 1:])


def with_row(picture, y, row):
    """The picture with another row."""
    return picture[:y] + (row,) + picture[y + 1:]


def nested(levels, kind):
    """Tuples or lists within one another."""
    value = kind()
    for _ in range(levels - 1):
        value = kind([value])
    return value


GOOD = picture_of(8, 8)

NO_VALUES = [-1, 256, -FAR, FAR, True, False, None, "", "0", "a", (), (0,), [], [0]]

NO_PICTURES = [
    0, 1, 8, -1, FAR, True, False, None,
    "", "a", "abcdefgh", "00" * 8, "/".join(["00" * 8] * 8),
    (), [], ((),), [[]], (None,), ((),) * 8, [[]] * 8, (8,) * 8, (None,) * 8, ("abcdefgh",) * 8,
    (((0,) * 8,) * 8,), (GOOD, GOOD), [GOOD], (GOOD,) * 8,
    nested(12, tuple), nested(12, list), (nested(11, tuple),) * 8,
    list(GOOD), [list(row) for row in GOOD], tuple(list(row) for row in GOOD),
    with_row(GOOD, 0, list(GOOD[0])), with_row(GOOD, 7, list(GOOD[7])),
    with_row(GOOD, 7, None), with_row(GOOD, 0, None), with_row(GOOD, 3, "abcdefgh"),
    GOOD[:7], GOOD + GOOD[:1], GOOD * 5, tuple(row[:7] for row in GOOD), tuple(row * 5 for row in GOOD),
    with_row(GOOD, 5, GOOD[5][:7]), with_row(GOOD, 5, GOOD[5] * 2), with_row(GOOD, 0, GOOD[0] * 2),
    with_value(GOOD, 7, 7, 256), with_value(GOOD, 0, 0, -1), with_value(GOOD, 4, 2, True),
    with_value(GOOD, 2, 4, None), with_value(GOOD, 2, 4, "0"), with_value(GOOD, 0, 1, (0,)),
]


def is_made_of_integers(value):
    """Whether these are plain integers, or tuples of such and of tuples."""
    if isinstance(value, tuple):
        return type(value) is tuple and all(is_made_of_integers(part) for part in value)
    return type(value) is int

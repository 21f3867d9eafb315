"""Streams and other rows of values that several tests share."""

from picturetide.units import unit_of
from samples import drawn_leaf, drawn_picture

STILL_MODES = ("flat", "down", "right", "slope")
# (bands, blocks, many), each with at most 16 blocks in all and at most 16 units.
SHAPES_OF_STREAMS = [
    (1, 1, 1), (1, 1, 2), (1, 1, 6), (1, 1, 12), (2, 1, 3), (1, 2, 5), (2, 2, 4), (3, 1, 4), (1, 4, 4), (4, 1, 4),
    (4, 4, 1), (2, 3, 2), (1, 3, 4), (4, 2, 2),
]


def drawn_small_leaf(source, n, modes):
    """A leaf that tells few levels and moves by little, so that what it asks shows through."""
    mode = source.choice(modes)
    told = (mode, 0, 0, 0)
    if mode == "motion":
        told = (mode, source.randrange(3), source.randrange(-5, 6), source.randrange(-5, 6))
    sizes = source.choice([(0,), (0, 0, 0, 1, -1, 9), (-90, 90, 7, 0, -40)])
    levels = tuple(tuple(source.choice(sizes) for _ in range(n)) for _ in range(n))
    return ("leaf", *told, source.choice([1, 1, 2, 4]), levels)


def drawn_small_tree(source, modes, n=8):
    if n > 2 and source.randrange(3) == 0:
        return ("split", tuple(drawn_small_tree(source, modes, n // 2) for _ in range(4)))
    return drawn_leaf(source, n, modes) if source.randrange(6) == 0 else drawn_small_leaf(source, n, modes)


def drawn_kinds(source, many):
    """For each picture a (kind, keep), the first one a key picture."""
    kinds = ["key"] + [source.choice(["key", "other", "other", "other"]) for _ in range(many - 1)]
    return [(kind, source.choice([None, 0, 1, 2])) for kind in kinds]


def stream_of(size, kinds, trees_of):
    """The stream of size (bands, blocks, many); trees_of(kind, number, band) tells the trees of each unit."""
    bands, _, many = size
    return tuple(
        unit_of(*size, number, *kinds[number], band, trees_of(kinds[number][0], number, band))
        for number in range(many) for band in range(bands)
    )


def drawn_stream(source, size, kinds=None):
    """A stream of drawn trees."""
    def trees_of(kind, number, band):
        modes = STILL_MODES if kind == "key" else STILL_MODES + ("motion",) * 6
        return tuple(drawn_small_tree(source, modes) for _ in range(size[1]))
    return stream_of(size, kinds or drawn_kinds(source, size[2]), trees_of)


def pairs_of(units):
    """The pairs (picture, band) of a stream."""
    bands, many = units[0][1], units[0][4]
    return [(number, band) for number in range(many) for band in range(bands)]


def drawn_lost(source, units):
    """Some pairs of a stream, often all of a picture."""
    pairs = pairs_of(units)
    lost = [source.choice(pairs) for _ in range(source.randrange(4))]
    for _ in range(source.randrange(3)):
        number = source.choice(pairs)[0]
        lost += [pair for pair in pairs if pair[0] == number]
    source.shuffle(lost)
    return lost


def rest_of(units, lost):
    """The units of a stream that are not lost."""
    return tuple(unit for unit, pair in zip(units, pairs_of(units)) if pair not in lost)


def broken(source, unit):
    """What is no unit any more."""
    at = source.randrange(len(unit))
    octet = (unit[at] + source.randrange(1, 256)) % 256
    return source.choice([
        unit[:at] + (octet,) + unit[at + 1:], unit[:at], unit + (0,), list(unit), unit[:at] + (True,) + unit[at + 1:],
        unit[:at] + (unit[at] + 256,) + unit[at + 1:], (unit,), None, "unit", at,
    ])


def mixed(source, units, others=()):
    """All of these units in any sequence, some of them twice, with others among them and with what is no unit."""
    values = list(units) + [source.choice(units) for _ in range(source.randrange(4)) if units] + list(others)
    values += [broken(source, source.choice(units)) for _ in range(source.randrange(4)) if units]
    source.shuffle(values)
    return values


def soft_picture(source, rows, columns):
    """A picture in which neighbours differ by little."""
    base, down, across = source.randrange(256), source.randrange(-6, 7), source.randrange(-6, 7)
    body = [[base + down * y + across * x + source.choice([0, 0, 0, 1, -2]) for x in range(columns)]
            for y in range(rows)]
    return tuple(tuple(min(max(value, 0), 255) for value in row) for row in body)


def moved_picture(source, picture):
    """The picture moved by up to one place, with some places changed."""
    down, across = source.randrange(-1, 2), source.randrange(-1, 2)
    rows, columns = len(picture), len(picture[0])
    found = []
    for y in range(rows):
        line = picture[min(max(y + down, 0), rows - 1)]
        values = [line[min(max(x + across, 0), columns - 1)] for x in range(columns)]
        found.append(tuple(min(max(value + source.choice([0] * 20 + [1, -3]), 0), 255) for value in values))
    return tuple(found)


def any_picture(source, rows, columns):
    """A picture of one of several kinds."""
    kind = source.randrange(4)
    if kind == 0:
        return soft_picture(source, rows, columns)
    if kind == 1:
        return ((source.randrange(256),) * columns,) * rows
    if kind == 2:
        return drawn_picture(source, rows, columns, (0, 255))
    return drawn_picture(source, rows, columns)

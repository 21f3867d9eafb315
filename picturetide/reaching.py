"""How far a loss reaches: all places that can be shown otherwise without the units that are lost."""

from picturetide.basics import is_number_below
from picturetide.errors import InvalidNumber
from picturetide.leaves import put_area
from picturetide.pictures import BAND_ROWS
from picturetide.predictions import asked_by_motion, made_of_neighbours
from picturetide.streams import roles_of, slots_ahead, slots_behind, told_by_stream
from picturetide.trees import BLOCK, leaves_of_band

# Marks are rows with True at each place that is reached. They go the way of the values that they stand for: a slot that
# is astray holds a picture reached everywhere, an empty slot one reached nowhere.


def plain_marks(rows, columns, mark):
    """Rows with the same mark everywhere."""
    return ((mark,) * columns,) * rows


def is_one_reached(marks):
    """Tell whether one of the places that are asked is reached."""
    return any(marks)


def is_one_of_three_reached(upper, side, corner):
    """Tell whether one of the three places that a slope asks is reached."""
    return upper or side or corner


def marks_of_leaf(rows, top, slots, area, leaf):
    """Where the area of a leaf is reached, with the marks of its band as far as they are known."""
    _, mode, slot, dy, dx, _, _ = leaf
    if mode != "motion":
        return made_of_neighbours(rows, area, mode, is_one_reached, is_one_of_three_reached, False)
    return [[is_one_reached(asked) for asked in row] for row in asked_by_motion(slots[slot], top, area, dy, dx)]


def marks_of_band(trees, top, slots):
    """Where a band that is not lost is reached."""
    rows = [[False] * (BLOCK * len(trees)) for row in range(BAND_ROWS)]
    for y, x, n, leaf in leaves_of_band(trees):
        area = (y, x, n)
        put_area(rows, area, marks_of_leaf(rows, top, slots, area, leaf))
    return tuple([tuple(row) for row in rows])


def marks_of_picture(told, number, slots, lost):
    """Where a picture is reached; lost is a dict of the pairs of what is lost."""
    bands, blocks, _ = told.size
    rows = ()
    for band in range(bands):
        if (number, band) in lost:
            rows = rows + plain_marks(BAND_ROWS, BLOCK * blocks, True)
        else:
            rows = rows + marks_of_band(told.trees[number, band], BAND_ROWS * band, slots)
    return rows


def marks_of_stream(told, lost):
    """Where each picture of a stream is reached if this is lost."""
    bands, blocks, _ = told.size
    taken = {pair: True for pair in lost}
    slots = ()
    found = []
    for number, (kind, keep) in enumerate(roles_of(told)):
        is_whole_lost = all([(number, band) in taken for band in range(bands)])
        slots = slots_ahead(slots, kind, plain_marks(BAND_ROWS * bands, BLOCK * blocks, is_whole_lost))
        marks = marks_of_picture(told, number, slots, taken)
        slots = slots_behind(slots, keep, marks)
        found.append(marks)
    return found


def is_pair_of(told, value):
    """Tell of any value whether it is a pair of the numbers of a picture and a band of a stream."""
    bands, _, many = told.size
    if not isinstance(value, tuple) or len(value) != 2:
        return False
    return is_number_below(value[0], many) and is_number_below(value[1], bands)


def check_lost(told, lost):
    """Raise InvalidNumber with the first that is no pair of the numbers of a picture and a band."""
    for pair in lost:
        if not is_pair_of(told, pair):
            raise InvalidNumber(pair)


def marks_of(units, lost):
    """Where each picture of the stream is reached if this is lost, with all that is raised of these."""
    told = told_by_stream(units)
    check_lost(told, lost)
    return marks_of_stream(told, lost)


def places_of(marks):
    """The places that are reached, ascending."""
    return tuple([(y, x) for y, row in enumerate(marks) for x, mark in enumerate(row) if mark])


def reach(units, lost):
    """For each picture of the stream the places that are reached if the units of these pairs are lost."""
    return tuple([places_of(marks) for marks in marks_of(units, lost)])


def reach_counts(units, lost):
    """For each picture of the stream how many places are reached."""
    return tuple([len(places_of(marks)) for marks in marks_of(units, lost)])


def ends_at(units, number):
    """The number of the first key picture behind this one, or how many pictures there are."""
    roles = roles_of(told_by_stream(units))
    if not is_number_below(number, len(roles)):
        raise InvalidNumber(number)
    for behind in range(number + 1, len(roles)):
        if roles[behind][0] == "key":
            return behind
    return len(roles)


def worst_unit(units):
    """The first (picture, band) whose loss alone reaches the most places."""
    told = told_by_stream(units)
    worst = None
    most = 0
    for pair in sorted(told.units):
        count = sum([len(places_of(marks)) for marks in marks_of_stream(told, (pair,))])
        if count > most:
            worst = pair
            most = count
    return worst

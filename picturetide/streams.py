"""Streams of units: pictures coded into them, and what is shown of those that are left."""

from picturetide.basics import is_number_below
from picturetide.choices import coded_band
from picturetide.errors import InvalidPicture, InvalidPlan, InvalidStream
from picturetide.leaves import band_shown
from picturetide.pictures import BAND_ROWS, VALUE_LIMIT, is_picture, plain
from picturetide.predictions import GREY
from picturetide.trees import BLOCK, SLOTS
from picturetide.units import KINDS, read_unit, unit_of

EMPTY_SLOTS = (None, None, None)


class Told:
    """What a row of any values tells by those of its units that count."""

    def __init__(self, values):
        # How many bands, blocks and pictures there are; None if there is no unit.
        self.size = None
        # The (kind, keep) of each picture that has a unit.
        self.roles = {}
        # By the numbers of picture and band.
        self.units = {}
        self.trees = {}
        for value in values:
            self.take(value)

    def take(self, value):
        """Let a value count if it is a unit that agrees with those ahead, and the first one of its place."""
        unit = read_unit(value)
        if unit is None:
            return
        bands, blocks, many, number, kind, keep, band, trees = unit
        if self.size is None:
            self.size = (bands, blocks, many)
        if self.size != (bands, blocks, many):
            return
        if self.roles.setdefault(number, (kind, keep)) != (kind, keep):
            return
        self.units.setdefault((number, band), value)
        self.trees.setdefault((number, band), trees)


def units_of(values):
    """The units that count of a row of any values, by picture and band."""
    told = Told(values)
    return tuple([told.units[place] for place in sorted(told.units)])


def is_stream_told(value, told):
    """Tell of a row of values, and of what it tells, whether it is a stream."""
    if told.size is None or len(value) != len(told.units):
        return False
    bands, _, many = told.size
    return list(told.units) == [(number, band) for number in range(many) for band in range(bands)]


def is_stream(value):
    """Tell of any value whether it is a stream: a tuple with one unit for each picture and band, in this order."""
    return isinstance(value, tuple) and is_stream_told(value, Told(value))


def told_by_stream(units):
    """What a stream tells; InvalidStream if this is none."""
    if not isinstance(units, tuple):
        raise InvalidStream(units)
    told = Told(units)
    if not is_stream_told(units, told):
        raise InvalidStream(units)
    return told


def roles_of(told):
    """The (kind, keep) of each picture of a stream."""
    return tuple([told.roles[number] for number in sorted(told.roles)])


def kinds_of(units):
    """The (kind, keep) of each picture of a stream."""
    return roles_of(told_by_stream(units))


def slots_ahead(slots, kind, empty):
    """The slots as a picture of this kind finds them: a key picture finds what stands for an empty one in all."""
    return (empty,) * SLOTS if kind == "key" else slots


def slots_behind(slots, keep, picture):
    """The slots with a picture kept in one of them, or none if keep is None."""
    if keep is None:
        return slots
    return slots[:keep] + (picture,) + slots[keep + 1:]


def picture_shown(told, number, slots, ahead):
    """A picture, with the rows of the one that is shown ahead of it where a band is lost."""
    bands, _, _ = told.size
    rows = ()
    for band in range(bands):
        top = BAND_ROWS * band
        trees = told.trees.get((number, band))
        repaired = ahead[top:top + BAND_ROWS]
        rows = rows + (repaired if trees is None else band_shown(trees, top, slots))
    return rows


def pictures_shown(told, start, end):
    """The pictures from start to end - 1; start must be 0 or a key picture that has a unit."""
    bands, blocks, _ = told.size
    slots = EMPTY_SLOTS
    picture = plain(BAND_ROWS * bands, BLOCK * blocks, GREY)
    found = []
    for number in range(start, end):
        # A picture without a unit does what one does that is neither a key picture nor kept: nothing.
        kind, keep = told.roles.get(number, ("other", None))
        slots = slots_ahead(slots, kind, None)
        picture = picture_shown(told, number, slots, picture)
        slots = slots_behind(slots, keep, picture)
        found.append(picture)
    return tuple(found)


def shown(values):
    """The pictures that a row of any values shows."""
    told = Told(values)
    return () if told.size is None else pictures_shown(told, 0, told.size[2])


def is_row_of_pictures(value):
    """Tell of any value whether it is a sequence of one or more pictures of one size."""
    if not isinstance(value, (list, tuple)) or not all(is_picture(member) for member in value):
        return False
    sizes = [(len(picture), len(picture[0])) for picture in value]
    return len(sizes) > 0 and all(size == sizes[0] for size in sizes)


def check_pictures(pictures):
    """Raise InvalidPicture unless this is a sequence of one or more pictures of one size."""
    if not is_row_of_pictures(pictures):
        raise InvalidPicture(pictures)


def is_part_of_plan(value):
    """Tell of any value whether it is a (kind, keep, bound)."""
    if not isinstance(value, tuple) or len(value) != 3:
        return False
    kind, keep, bound = value
    return kind in KINDS and (keep is None or is_number_below(keep, SLOTS)) and is_number_below(bound, VALUE_LIMIT)


def check_plan(plan, many):
    """Raise InvalidPlan unless this is a plan for so many pictures, one or more."""
    if not isinstance(plan, (list, tuple)) or len(plan) != many:
        raise InvalidPlan(plan)
    if not all(is_part_of_plan(part) for part in plan) or plan[0][0] != "key":
        raise InvalidPlan(plan)


def coded_picture(pictures, number, part, slots, window):
    """The units of one of the pictures by its part of the plan, and what they show."""
    picture = pictures[number]
    kind, keep, bound = part
    size = (len(picture) // BAND_ROWS, len(picture[0]) // BLOCK, len(pictures))
    units = []
    rows = ()
    for band in range(len(picture) // BAND_ROWS):
        top = BAND_ROWS * band
        trees = coded_band(picture[top:top + BAND_ROWS], top, slots, kind, bound, window)
        units.append(unit_of(*size, number, kind, keep, band, trees))
        rows = rows + band_shown(trees, top, slots)
    return (units, rows)


def coded_in_turn(plan, code):
    """All that code tells of each picture, by its number and the slots that it finds; what it shows comes second."""
    slots = EMPTY_SLOTS
    found = []
    for number, (kind, keep, _) in enumerate(plan):
        slots = slots_ahead(slots, kind, None)
        coded = code(number, slots)
        slots = slots_behind(slots, keep, coded[1])
        found.append(coded)
    return found


def encoded(pictures, plan, window):
    """The stream of pictures, each coded as its part of the plan tells."""
    check_pictures(pictures)
    check_plan(plan, len(pictures))
    coded = coded_in_turn(plan, lambda number, slots: coded_picture(pictures, number, plan[number], slots, window))
    return tuple([unit for units, picture in coded for unit in units])

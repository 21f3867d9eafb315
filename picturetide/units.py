"""Units: the octets of one band of one picture, with all that tells where it belongs and whether it is whole."""

from picturetide.bands import band_octets, read_band
from picturetide.basics import OCTET_LIMIT, figures, is_number_below, number_of_figures
from picturetide.errors import InvalidTree
from picturetide.trees import MOST_BLOCKS, SLOTS, is_band_tree_of_kind

SIGN = 84
MOST_BANDS = 4
MOST_PICTURES = 12
KINDS = ("key", "other")
# How many octets stand ahead of the payload and behind it.
HEAD = 12
TAIL = 4
FIRST_CHECK = 7
CHECK_FACTOR = 257
CHECK_MODULUS = 2147483647


def check_of(octets):
    """The check of these octets."""
    check = FIRST_CHECK
    for octet in octets:
        check = (CHECK_FACTOR * check + octet) % CHECK_MODULUS
    return check


def with_check(octets):
    """These octets with their check behind them."""
    return octets + figures(check_of(octets), TAIL)


def unit_of(bands, blocks, many, number, kind, keep, band, trees):
    """The unit of a band of the picture of this number, of many pictures with so many bands and blocks."""
    if not is_band_tree_of_kind(trees, blocks, kind):
        raise InvalidTree(trees)
    payload = band_octets(trees)
    size = (SIGN, bands, blocks) + figures(many, 2)
    place = figures(number, 2) + (KINDS.index(kind), 0 if keep is None else keep + 1, band)
    return with_check(size + place + figures(len(payload), 2) + payload)


def renumbered(unit, many, number):
    """The unit as that of the picture of this number of so many ones."""
    return with_check(unit[:3] + figures(many, 2) + figures(number, 2) + unit[7:-TAIL])


def is_row_of_octets(value):
    """Tell of any value whether it is a tuple of integers from 0 to 255."""
    return isinstance(value, tuple) and all(is_number_below(member, OCTET_LIMIT) for member in value)


def is_size(bands, blocks, many):
    """Tell whether a stream can have so many bands, blocks and pictures."""
    return 1 <= bands <= MOST_BANDS and 1 <= blocks <= MOST_BLOCKS and 1 <= many <= MOST_PICTURES


def is_role(number, kind_number, keep_number):
    """Tell whether the picture of this number can be of this kind and kept so; the first one is a key picture."""
    return kind_number < (1 if number == 0 else len(KINDS)) and keep_number <= SLOTS


def read_octets(octets):
    """What the octets of a unit ahead of its check tell, or None."""
    _, bands, blocks = octets[:3]
    many = number_of_figures(octets[3:5])
    number = number_of_figures(octets[5:7])
    kind_number, keep_number, band = octets[7:10]
    payload = octets[HEAD:]
    if not is_size(bands, blocks, many) or not is_role(number, kind_number, keep_number):
        return None
    if number >= many or band >= bands or number_of_figures(octets[10:HEAD]) != len(payload):
        return None
    kind = KINDS[kind_number]
    trees = read_band(payload, blocks, kind)
    if trees is None:
        return None
    keep = None if keep_number == 0 else keep_number - 1
    return (bands, blocks, many, number, kind, keep, band, trees)


def read_unit(value):
    """Of any value what it tells as a unit (bands, blocks, many, number, kind, keep, band, trees), or None."""
    if not is_row_of_octets(value) or len(value) < HEAD + TAIL or value[0] != SIGN:
        return None
    octets = value[:-TAIL]
    return read_octets(octets) if with_check(octets) == value else None

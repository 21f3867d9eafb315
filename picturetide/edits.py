"""Streams cut, joined and sought in without coding anew, and compared."""

from picturetide.basics import is_number_below
from picturetide.errors import InvalidNumber, InvalidPicture, InvalidStream, NoKey, TooLong
from picturetide.pictures import first_unlike, greatest_error, size_of
from picturetide.streams import check_pictures, pictures_shown, roles_of, told_by_stream
from picturetide.units import MOST_PICTURES, renumbered


def keys_told(told):
    """The numbers of the key pictures of what a stream tells."""
    return [number for number, role in enumerate(roles_of(told)) if role[0] == "key"]


def keys_of(units):
    """The numbers of the key pictures of a stream."""
    return tuple(keys_told(told_by_stream(units)))


def count_of(told):
    """How many pictures there are."""
    return told.size[2]


def all_shown(told):
    """All pictures that a stream shows."""
    return pictures_shown(told, 0, count_of(told))


def shown_from(units, number):
    """The picture of this number that a stream shows; nothing ahead of the last key picture up to it is looked at."""
    told = told_by_stream(units)
    if not is_number_below(number, count_of(told)):
        raise InvalidNumber(number)
    start = max([key for key in keys_told(told) if key <= number])
    return pictures_shown(told, start, number + 1)[-1]


def check_cut(told, start, end):
    """Raise InvalidNumber unless these are the ends of one or more pictures, NoKey unless the first is a key one."""
    if not is_number_below(start, count_of(told)):
        raise InvalidNumber(start)
    if not is_number_below(end, count_of(told) + 1) or end <= start:
        raise InvalidNumber(end)
    if start not in keys_told(told):
        raise NoKey(start)


def assembled(parts):
    """One stream of parts, each told by a stream, its first picture's number, and the one behind its last."""
    many = sum([end - start for told, start, end in parts])
    number = 0
    found = []
    for told, start, end in parts:
        bands, _, _ = told.size
        for taken in range(start, end):
            found.extend([renumbered(told.units[taken, band], many, number) for band in range(bands)])
            number = number + 1
    return tuple(found)


def cut(units, start, end):
    """The stream of the pictures from start to end - 1."""
    told = told_by_stream(units)
    check_cut(told, start, end)
    return assembled([(told, start, end)])


def check_joint(told, other, other_told, count):
    """Raise InvalidStream unless both have one size, TooLong unless a stream can have so many pictures."""
    if told.size[:2] != other_told.size[:2]:
        raise InvalidStream(other)
    if count > MOST_PICTURES:
        raise TooLong(count)


def joined(units, other):
    """The stream of the pictures of both."""
    told = told_by_stream(units)
    other_told = told_by_stream(other)
    count = count_of(told)
    other_count = count_of(other_told)
    check_joint(told, other, other_told, count + other_count)
    return assembled([(told, 0, count), (other_told, 0, other_count)])


def replaced(units, start, end, other):
    """The stream with the pictures of another one in place of those from start to end - 1."""
    told = told_by_stream(units)
    other_told = told_by_stream(other)
    check_cut(told, start, end)
    count = count_of(told)
    if end < count and end not in keys_told(told):
        raise NoKey(end)
    other_count = count_of(other_told)
    check_joint(told, other, other_told, start + other_count + count - end)
    return assembled([(told, 0, start), (other_told, 0, other_count), (told, end, count)])


def first_apart(units, other):
    """The first (picture, y, x) at which two streams show unlike values, or None."""
    told = told_by_stream(units)
    other_told = told_by_stream(other)
    if told.size[:2] != other_told.size[:2]:
        return (0, 0, 0)
    for number, (picture, other_picture) in enumerate(zip(all_shown(told), all_shown(other_told))):
        place = first_unlike(picture, other_picture)
        if place is not None:
            return (number, *place)
    if count_of(told) == count_of(other_told):
        return None
    return (min(count_of(told), count_of(other_told)), 0, 0)


def greatest_errors(units, pictures):
    """For each picture the greatest difference from what a stream shows in its place."""
    told = told_by_stream(units)
    check_pictures(pictures)
    found = all_shown(told)
    if len(found) != len(pictures) or size_of(found[0]) != size_of(pictures[0]):
        raise InvalidPicture(pictures)
    return tuple([greatest_error(picture, other) for picture, other in zip(found, pictures)])

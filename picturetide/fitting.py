"""Pictures coded so that each one takes at most so many octets, with the least bounds that do."""

from picturetide.basics import is_number_below
from picturetide.errors import InvalidNumber, TooLong
from picturetide.streams import check_pictures, check_plan, coded_in_turn, coded_picture, told_by_stream

GREATEST_BOUND = 255


def octets_in(units):
    """How many octets these units have."""
    return sum([len(unit) for unit in units])


def length_of(units, number):
    """How many octets all units of a picture of the stream have."""
    bands, _, many = told_by_stream(units).size
    if not is_number_below(number, many):
        raise InvalidNumber(number)
    return octets_in(units[bands * number:bands * (number + 1)])


def bounds_from(bound):
    """The bounds that are tried, each 1 more than twice the one ahead, till the greatest one."""
    found = []
    tried = bound
    while tried < GREATEST_BOUND:
        found.append(tried)
        tried = 2 * tried + 1
    return [*found, GREATEST_BOUND]


def fitted_picture(pictures, number, part, slots, window, most):
    """The units of one of the pictures, what they show, and the first bound with which they are short enough."""
    kind, keep, least = part
    for bound in bounds_from(least):
        units, picture = coded_picture(pictures, number, (kind, keep, bound), slots, window)
        if octets_in(units) <= most:
            return (units, picture, bound)
    raise TooLong(number)


def fitted(pictures, plan, window, most):
    """The stream of pictures of which each has at most so many octets, and the bounds that were taken for that."""
    check_pictures(pictures)
    check_plan(plan, len(pictures))
    coded = coded_in_turn(
        plan, lambda number, slots: fitted_picture(pictures, number, plan[number], slots, window, most))
    units = tuple([unit for units_of_picture, picture, bound in coded for unit in units_of_picture])
    return (units, tuple([bound for _, _, bound in coded]))

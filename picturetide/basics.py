"""What all modules ask of plain values."""

OCTET_LIMIT = 256


def is_integer(value):
    """Tell of any value whether it is an integer, which a bool is not."""
    return isinstance(value, int) and not isinstance(value, bool)


def is_number(value):
    """Tell of any value whether it is a number (an integer from 0 on, no bool)."""
    return is_integer(value) and value >= 0


def is_number_below(value, limit):
    """Tell of any value whether it is a number below limit."""
    return is_number(value) and value < limit


def is_integer_within(value, limit):
    """Tell of any value whether it is an integer from -limit to limit."""
    return is_integer(value) and -limit <= value <= limit


def figures(number, count):
    """So many figures of a number to the base 256, the greatest first."""
    found = []
    rest = number
    for _ in range(count):
        rest, figure = divmod(rest, OCTET_LIMIT)
        found.append(figure)
    return tuple(found[::-1])


def number_of_figures(octets):
    """The number that has these figures to the base 256, the greatest first."""
    number = 0
    for octet in octets:
        number = OCTET_LIMIT * number + octet
    return number

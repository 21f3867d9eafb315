"""What all modules ask of plain values."""


def is_integer(value):
    """Tell of any value whether it is an integer, which a bool is not."""
    return isinstance(value, int) and not isinstance(value, bool)


def is_number_below(value, limit):
    """Tell of any value whether it is a number (an integer from 0 on, no bool) below limit."""
    return is_integer(value) and 0 <= value < limit


def is_integer_within(value, limit):
    """Tell of any value whether it is an integer from -limit to limit."""
    return is_integer(value) and -limit <= value <= limit

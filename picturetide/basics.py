"""What all modules ask of plain values."""


def is_number_below(value, limit):
    """Tell of any value whether it is a number (an integer from 0 on, no bool) below limit."""
    return isinstance(value, int) and not isinstance(value, bool) and 0 <= value < limit

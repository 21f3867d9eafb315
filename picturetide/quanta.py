"""Squares of integers told in whole quanta, and how far a place can come to differ by that."""


def level_of(c, q):
    """How many times q an integer is, to the nearest number; exactly in the middle, the one further from 0."""
    size = (abs(c) + q // 2) // q
    return size if c >= 0 else -size


def levels(square, q):
    """The square of the levels of all members."""
    return tuple([tuple([level_of(member, q) for member in row]) for row in square])


def unlevelled(square, q):
    """The square of all members times q."""
    return tuple([tuple([member * q for member in row]) for row in square])


def upper_half(number):
    """Half of a number, to the next integer if it is odd."""
    return (number + 1) // 2


def place_bound(n, q):
    """By how much a place of a square of n rows can come to differ if its transform is told in levels of q."""
    rest = q // 2
    bound = rest
    size = 2
    while size <= n:
        half = upper_half(rest)
        bound = bound + half + upper_half(rest + half)
        size = 2 * size
    return bound

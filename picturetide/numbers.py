"""Numbers and integers put into a coder bit by bit, the smaller ones in fewer bits, and what they cost."""

MOST_FIGURES = 16


def put_number(coder, word, v):
    """Put how many binary figures v + 1 has, then its figures behind the first one, the greatest first."""
    number = v + 1
    behind = number.bit_length() - 1
    for i in range(behind):
        coder.put((word, 0, i), 1)
    if behind + 1 < MOST_FIGURES:
        coder.put((word, 0, behind), 0)
    for j in reversed(range(behind)):
        coder.put((word, 1, j), (number >> j) & 1)


def get_number(decoder, word):
    """Read what put_number puts."""
    behind = 0
    while behind + 1 < MOST_FIGURES and decoder.get((word, 0, behind)) == 1:
        behind = behind + 1
    number = 1
    for j in reversed(range(behind)):
        number = 2 * number + decoder.get((word, 1, j))
    return number - 1


def folded(v):
    """The number that stands for an integer: odd above 0, even below."""
    return 2 * v - 1 if v > 0 else -2 * v


def unfolded(number):
    """The integer for which a number stands."""
    half = (number + 1) // 2
    return half if number & 1 == 1 else -half


def put_signed(coder, word, v):
    """Put an integer of either sign."""
    put_number(coder, word, folded(v))


def get_signed(decoder, word):
    """Read what put_signed puts."""
    return unfolded(get_number(decoder, word))


def price_of(v):
    """How many bits put_number puts, counted as if it always put a bit behind the ones."""
    return 2 * (v + 1).bit_length() - 1


def price_of_signed(v):
    """The price of the number that put_signed puts."""
    return price_of(folded(v))

"""Pictures: tuples of rows, which are tuples of values, and their bands of 8 rows."""

from picturetide.basics import is_number_below
from picturetide.errors import InvalidNumber, InvalidPicture

SIZES = (8, 16, 24, 32)
VALUE_LIMIT = 256
BAND_ROWS = 8


def is_row(value, columns):
    """Tell of any value whether it is a row of so many values."""
    if not isinstance(value, tuple) or len(value) != columns:
        return False
    return all(is_number_below(member, VALUE_LIMIT) for member in value)


def is_picture(value):
    """Tell of any value whether it is a picture."""
    if not isinstance(value, tuple) or len(value) not in SIZES:
        return False
    first = value[0]
    if not isinstance(first, tuple) or len(first) not in SIZES:
        return False
    columns = len(first)
    return all(is_row(row, columns) for row in value)


def check_picture(value):
    """Raise InvalidPicture unless the value is a picture."""
    if not is_picture(value):
        raise InvalidPicture(value)


def size_of(picture):
    """The numbers of rows and of columns of a picture."""
    check_picture(picture)
    return (len(picture), len(picture[0]))


def check_sizes(picture, other):
    """Raise InvalidPicture unless both are pictures, and of one size."""
    size = size_of(picture)
    if size_of(other) != size:
        raise InvalidPicture(other)


def plain(rows, columns, value):
    """The picture of so many rows and columns that has one value everywhere."""
    return ((value,) * columns,) * rows


def nearest(number, count):
    """That of the numbers below count which is nearest to number."""
    return min(max(number, 0), count - 1)


def near_value(picture, y, x):
    """That which value_at tells of what is known to be a picture."""
    row = picture[nearest(y, len(picture))]
    return row[nearest(x, len(row))]


def value_at(picture, y, x):
    """The value of the picture at the place nearest to (y, x)."""
    check_picture(picture)
    return near_value(picture, y, x)


def clipped(number):
    """That of the values which is nearest to number."""
    return nearest(number, VALUE_LIMIT)


def greatest_error(picture, other):
    """The greatest difference of the values of two pictures at one place."""
    check_sizes(picture, other)
    greatest = 0
    for row, other_row in zip(picture, other):
        for value, other_value in zip(row, other_row):
            greatest = max(greatest, abs(value - other_value))
    return greatest


def first_unlike(picture, other):
    """The first place at which two pictures differ, or None."""
    check_sizes(picture, other)
    for y, row in enumerate(picture):
        for x, value in enumerate(row):
            if value != other[y][x]:
                return (y, x)
    return None


def check_band(picture, number):
    """Raise InvalidPicture unless this is a picture, InvalidNumber unless it has this band."""
    check_picture(picture)
    if not is_number_below(number, len(picture) // BAND_ROWS):
        raise InvalidNumber(number)


def band_of(picture, number):
    """The 8 rows of a band of the picture."""
    check_band(picture, number)
    top = BAND_ROWS * number
    return picture[top:top + BAND_ROWS]


def with_band(picture, number, rows):
    """The picture with these 8 rows in the place of a band."""
    check_band(picture, number)
    top = BAND_ROWS * number
    return picture[:top] + rows + picture[top + BAND_ROWS:]

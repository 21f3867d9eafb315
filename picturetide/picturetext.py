"""Pictures as texts: two figures of base 16 for each value, the rows joined by /."""

from picturetide.errors import InvalidText
from picturetide.pictures import SIZES, check_picture

FIGURES = "0123456789abcdef"


def row_text(row):
    """The figures of the values of a row."""
    return "".join(f"{value:02x}" for value in row)


def picture_text(picture):
    """The text of a picture."""
    check_picture(picture)
    return "/".join(row_text(row) for row in picture)


def columns_told(text):
    """How many columns the first row tells."""
    end = text.find("/")
    for columns in SIZES:
        if end == 2 * columns:
            return columns
    # All other texts go wrong or end within the widest row, at the sign that a reader of this row finds.
    return SIZES[-1]


def can_stand(sign, at, columns):
    """Tell whether a text of so many columns can have this sign as its sign number at."""
    row, place = divmod(at, 2 * columns + 1)
    if place == 2 * columns:
        return sign == "/" and row + 1 < SIZES[-1]
    return sign in FIGURES


def readable_signs(text, columns):
    """How many signs, from the first one on, can stand where they do."""
    for at, sign in enumerate(text):
        if not can_stand(sign, at, columns):
            return at
    return len(text)


def has_length_of_picture(text, columns):
    """Tell whether the text of a picture of so many columns can have this length."""
    return len(text) + 1 in [rows * (2 * columns + 1) for rows in SIZES]


def row_read(text):
    """The row whose figures these are."""
    return tuple([int(text[at:at + 2], 16) for at in range(0, len(text), 2)])


def read_picture(text):
    """The picture whose text this is; InvalidText with the first sign that cannot be read."""
    columns = columns_told(text)
    readable = readable_signs(text, columns)
    if readable < len(text) or not has_length_of_picture(text, columns):
        raise InvalidText(text, readable)
    return tuple([row_read(row) for row in text.split("/")])

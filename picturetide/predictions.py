"""What the values of an area are expected to be, from its neighbours or from a kept picture."""

from picturetide.pictures import check_picture, clipped, near_value

# What is expected where nothing is known.
GREY = 128


def mean(values):
    """The mean of one or more values, to the nearest integer."""
    return (sum(values) + len(values) // 2) // len(values)


def above_of(rows, area):
    """The values above an area; none in the first row."""
    y, x, n = area
    return tuple(rows[y - 1][x:x + n]) if y > 0 else ()


def left_of(rows, area):
    """The values left of an area; none in the first column."""
    y, x, n = area
    return tuple([row[x - 1] for row in rows[y:y + n]]) if x > 0 else ()


def flat(above, left, n):
    """One value for the whole area: the mean of those around it."""
    around = above + left
    value = mean(around) if around else GREY
    return ((value,) * n,) * n


def slope(above, left, corner):
    """The values above, with what those to the left have more than the corner."""
    return tuple([tuple([clipped(upper + side - corner) for upper in above]) for side in left])


def predicted(rows, area, mode):
    """The area as a mode other than motion expects it."""
    y, x, n = area
    above = above_of(rows, area)
    left = left_of(rows, area)
    grey = (GREY,) * n
    if mode == "down":
        row = above or grey
        return (row,) * n
    if mode == "right":
        column = left or grey
        return tuple([(value,) * n for value in column])
    if mode == "slope" and above and left:
        return slope(above, left, rows[y - 1][x - 1])
    return flat(above, left, n)


def halves(place):
    """The whole places at a place told in halves: one, or two if it lies between."""
    return (place // 2, place // 2 + 1) if place & 1 else (place // 2,)


def half_value(picture, v, h):
    """That which halfway tells of what is known to be a picture."""
    return mean([near_value(picture, y, x) for y in halves(v) for x in halves(h)])


def halfway(picture, v, h):
    """The value of a picture at a place told in halves."""
    check_picture(picture)
    return half_value(picture, v, h)


def expected_motion(picture, top, area, dy, dx):
    """That which moved tells of what is known to be a picture or None."""
    y, x, n = area
    if picture is None:
        return ((GREY,) * n,) * n
    rows = []
    for v in [2 * (top + y + i) + dy for i in range(n)]:
        rows.append(tuple([half_value(picture, v, 2 * (x + k) + dx) for k in range(n)]))
    return tuple(rows)


def moved(picture, top, area, dy, dx):
    """The area as a kept picture, moved by dy and dx halves, expects it; top is the first row of its band."""
    if picture is not None:
        check_picture(picture)
    return expected_motion(picture, top, area, dy, dx)

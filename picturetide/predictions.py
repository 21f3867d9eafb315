"""What the values of an area are expected to be, from its neighbours or from a kept picture."""

from picturetide.pictures import check_picture, clipped, near_value

# What is expected where nothing is known.
GREY = 128


def mean(values):
    """The mean of one or more values, to the nearest integer."""
    return (sum(values) + len(values) // 2) // len(values)


def above_of(rows, area):
    """The members above an area; none in the first row."""
    y, x, n = area
    return tuple(rows[y - 1][x:x + n]) if y > 0 else ()


def left_of(rows, area):
    """The members left of an area; none in the first column."""
    y, x, n = area
    return tuple([row[x - 1] for row in rows[y:y + n]]) if x > 0 else ()


def slope_value(upper, side, corner):
    """The value above, with what the one to the left has more than the corner between them."""
    return clipped(upper + side - corner)


def made_of_neighbours(rows, area, mode, of_all, of_three, unknown):
    """The members of an area as a mode other than motion makes them of those above and to the left.

    of_all makes one member of all that are there, of_three one of those above, left and in the corner; unknown stands
    where nothing is there to ask.
    """
    y, x, n = area
    above = above_of(rows, area)
    left = left_of(rows, area)
    free = (unknown,) * n
    if mode == "down":
        return (above or free,) * n
    if mode == "right":
        return tuple([(member,) * n for member in left or free])
    if mode == "slope" and above and left:
        corner = rows[y - 1][x - 1]
        return tuple([tuple([of_three(upper, side, corner) for upper in above]) for side in left])
    around = above + left
    return ((of_all(around) if around else unknown,) * n,) * n


def predicted(rows, area, mode):
    """The area as a mode other than motion expects it."""
    return made_of_neighbours(rows, area, mode, mean, slope_value, GREY)


def halves(place):
    """The whole places at a place told in halves: one, or two if it lies between."""
    return (place // 2, place // 2 + 1) if place & 1 else (place // 2,)


def asked_at(picture, v, h):
    """The one, two or four members that are asked at a place told in halves."""
    return [near_value(picture, y, x) for y in halves(v) for x in halves(h)]


def halfway(picture, v, h):
    """The value of a picture at a place told in halves."""
    check_picture(picture)
    return mean(asked_at(picture, v, h))


def asked_by_motion(picture, top, area, dy, dx):
    """For each place of an area the members that are asked of a picture that is moved by dy and dx halves."""
    y, x, n = area
    downs = [2 * (top + y + i) + dy for i in range(n)]
    acrosses = [2 * (x + k) + dx for k in range(n)]
    return [[asked_at(picture, v, h) for h in acrosses] for v in downs]


def expected_motion(picture, top, area, dy, dx):
    """That which moved tells of what is known to be a picture or None."""
    y, x, n = area
    if picture is None:
        return ((GREY,) * n,) * n
    return tuple([tuple([mean(asked) for asked in row]) for row in asked_by_motion(picture, top, area, dy, dx)])


def moved(picture, top, area, dy, dx):
    """The area as a kept picture, moved by dy and dx halves, expects it; top is the first row of its band."""
    if picture is not None:
        check_picture(picture)
    return expected_motion(picture, top, area, dy, dx)

import copy
import random
import unittest

from models import model_halfway, model_predicted_value
from picturetide.errors import InvalidPicture
from picturetide.pictures import plain, value_at
from picturetide.predictions import halfway, moved, predicted
from samples import FAR, GOOD, NO_PICTURES, SHAPES, drawn_picture, is_made_of_integers, picture_of

STILL = ("flat", "down", "right", "slope")
AREAS = [
    (y, x, n) for n in (8, 4, 2) for y in range(0, 8, n) for x in range(0, 32, n)
    if x in (0, n, 2 * n, 8, 16 - n, 32 - n)
]


def rows_of(columns, *told):
    """8 rows of one value, but for what is told of single places."""
    rows = [[1000] * columns for _ in range(8)]
    for y, x, value in told:
        rows[y][x] = value
    return tuple(tuple(row) for row in rows)


def asked_of(area):
    """The places around an area that can be known."""
    y, x, n = area
    above = [(y - 1, x + k) for k in range(n)] if y > 0 else []
    left = [(y + i, x - 1) for i in range(n)] if x > 0 else []
    corner = [(y - 1, x - 1)] if y > 0 and x > 0 else []
    return above + left + corner


class Predicted(unittest.TestCase):
    def assert_predicted(self, rows, area, mode, wanted):
        found = predicted(rows, area, mode)
        self.assertEqual(found, wanted)
        self.assertTrue(is_made_of_integers(found))
        self.assertEqual(predicted(mode=mode, area=area, rows=rows), wanted)

    def test_without_any_neighbours(self):
        for mode in STILL:
            for n in (8, 4, 2):
                for value in (0, 255, 1000, -5):
                    rows = ((value,) * 16,) * 8
                    self.assert_predicted(rows, (0, 0, n), mode, ((128,) * n,) * n)

    def test_written_out_with_both_neighbours(self):
        rows = rows_of(8, (1, 1, 10), (1, 2, 20), (1, 3, 33), (2, 1, 40), (3, 1, 5))
        area = (2, 2, 2)
        self.assert_predicted(rows, area, "flat", ((25, 25), (25, 25)))
        self.assert_predicted(rows, area, "down", ((20, 33), (20, 33)))
        self.assert_predicted(rows, area, "right", ((40, 40), (5, 5)))
        self.assert_predicted(rows, area, "slope", ((50, 63), (15, 28)))

    def test_written_out_at_the_upper_edge(self):
        rows = rows_of(8, (0, 1, 7), (1, 1, 10))
        area = (0, 2, 2)
        self.assert_predicted(rows, area, "flat", ((9, 9), (9, 9)))
        self.assert_predicted(rows, area, "down", ((128, 128), (128, 128)))
        self.assert_predicted(rows, area, "right", ((7, 7), (10, 10)))
        self.assert_predicted(rows, area, "slope", ((9, 9), (9, 9)))

    def test_written_out_at_the_left_edge(self):
        rows = rows_of(8, (3, 0, 200), (3, 1, 101), (3, 2, 0), (3, 3, 0))
        area = (4, 0, 4)
        self.assert_predicted(rows, area, "flat", ((75,) * 4,) * 4)
        self.assert_predicted(rows, area, "down", ((200, 101, 0, 0),) * 4)
        self.assert_predicted(rows, area, "right", ((128,) * 4,) * 4)
        self.assert_predicted(rows, area, "slope", ((75,) * 4,) * 4)

    def test_the_mean_goes_up_from_the_middle(self):
        for told, wanted in (((0, 0, 0, 1), 0), ((0, 0, 0, 2), 1), ((0, 0, 0, 3), 1), ((1, 1, 1, 0), 1),
                             ((1, 0, 0, 0), 0), ((1, 1, 0, 0), 1), ((255, 255, 255, 254), 255)):
            rows = rows_of(8, (1, 2, told[0]), (1, 3, told[1]), (2, 1, told[2]), (3, 1, told[3]))
            self.assert_predicted(rows, (2, 2, 2), "flat", ((wanted, wanted),) * 2)
            if told[1] == told[2]:
                rows = rows_of(8, (1, 0, told[0]), (1, 1, told[3]))
                self.assert_predicted(rows, (2, 0, 2), "flat", (((told[0] + told[3] + 1) // 2,) * 2,) * 2)

    def test_slope_is_clipped(self):
        rows = rows_of(8, (1, 1, 100), (1, 2, 255), (1, 3, 10), (2, 1, 101), (3, 1, 80))
        self.assert_predicted(rows, (2, 2, 2), "slope", ((255, 11), (235, 0)))
        rows = rows_of(8, (1, 1, 0), (1, 2, 255), (1, 3, 127), (2, 1, 128), (3, 1, 129))
        self.assert_predicted(rows, (2, 2, 2), "slope", ((255, 255), (255, 255)))
        rows = rows_of(8, (1, 1, 255), (1, 2, 255), (1, 3, 127), (2, 1, 128), (3, 1, 0))
        self.assert_predicted(rows, (2, 2, 2), "slope", ((128, 0), (0, 0)))

    def test_all_areas_and_modes(self):
        source = random.Random(41)
        for columns in (8, 16, 24, 32):
            for values in (range(256), (0, 255), (127, 128, 129)):
                rows = drawn_picture(source, 8, columns, values)
                for area in AREAS:
                    if area[1] + area[2] <= columns:
                        for mode in STILL:
                            with self.subTest(columns=columns, area=area, mode=mode):
                                self.assert_as_model(rows, area, mode)

    def assert_as_model(self, rows, area, mode):
        n = area[2]
        wanted = tuple(
            tuple(model_predicted_value(lambda y, x: rows[y][x], area, i, k, mode) for k in range(n))
            for i in range(n)
        )
        self.assert_predicted(rows, area, mode, wanted)

    def test_whatever_stands_where_nothing_is_known_yet(self):
        source = random.Random(42)
        rows = drawn_picture(source, 8, 32)
        for area in AREAS:
            known = set(asked_of(area))
            for value in (0, 255, -1, 256, FAR, -FAR):
                other = tuple(
                    tuple(rows[y][x] if (y, x) in known else value for x in range(32)) for y in range(8)
                )
                for mode in STILL:
                    with self.subTest(area=area, value=value, mode=mode):
                        self.assertEqual(predicted(other, area, mode), predicted(rows, area, mode))

    def test_rows_stay_as_they_are(self):
        rows = picture_of(8, 32)
        before = copy.deepcopy(rows)
        for area in AREAS:
            for mode in STILL:
                predicted(rows, area, mode)
        self.assertEqual(rows, before)


class Halfway(unittest.TestCase):
    def assert_halfway(self, picture, v, h, wanted):
        found = halfway(picture, v, h)
        self.assertEqual(found, wanted)
        self.assertIs(type(found), int)
        self.assertEqual(halfway(h=h, v=v, picture=picture), wanted)

    def test_places_written_out(self):
        picture = ((10, 21, 0, 0, 0, 0, 0, 0), (32, 44, 0, 0, 0, 0, 0, 0)) + ((0,) * 8,) * 6
        for v, h, wanted in (
            (0, 0, 10), (0, 2, 21), (2, 0, 32), (2, 2, 44),
            (0, 1, 16), (1, 0, 21), (1, 2, 33), (2, 1, 38), (1, 1, 27),
            (-1, 0, 10), (-1, -1, 10), (0, -1, 10), (-1, 1, 16), (1, -1, 21), (-2, -2, 10), (-3, 3, 11),
            (15, 15, 0), (14, 14, 0), (3, 0, 16), (3, 3, 11),
        ):
            with self.subTest(v=v, h=h):
                self.assert_halfway(picture, v, h, wanted)

    def test_whole_places_are_value_at(self):
        for rows, columns in SHAPES:
            picture = picture_of(rows, columns)
            for y in (-FAR, -9, -1, 0, 1, rows - 2, rows - 1, rows, rows + 9, FAR):
                for x in (-FAR, -9, -1, 0, 1, columns - 2, columns - 1, columns, columns + 9, FAR):
                    with self.subTest(rows=rows, columns=columns, y=y, x=x):
                        self.assertEqual(halfway(picture, 2 * y, 2 * x), value_at(picture, y, x))

    def test_half_places_inside_at_the_edges_and_far_outside(self):
        for rows, columns in ((8, 8), (16, 24), (32, 8)):
            picture = picture_of(rows, columns)
            for v in list(range(-6, 2 * rows + 6)) + [FAR, FAR + 1, -FAR, 1 - FAR]:
                for h in list(range(-6, 2 * columns + 6, 3)) + [FAR, FAR + 1, -FAR, 1 - FAR]:
                    with self.subTest(rows=rows, columns=columns, v=v, h=h):
                        self.assert_halfway(picture, v, h, model_halfway(picture, v, h))

    def test_what_is_no_picture(self):
        for value in NO_PICTURES:
            before = copy.deepcopy(value)
            with self.subTest(value=value):
                for arguments, named in (((value, 0, 0), {}), ((), {"h": -1, "picture": value, "v": FAR})):
                    with self.assertRaises(InvalidPicture) as caught:
                        halfway(*arguments, **named)
                    self.assertIs(caught.exception.value, value)
                self.assertEqual(value, before)


class Moved(unittest.TestCase):
    def assert_moved(self, picture, top, area, dy, dx):
        y, x, n = area
        wanted = tuple(
            tuple(model_halfway(picture, 2 * (top + y + i) + dy, 2 * (x + k) + dx) for k in range(n))
            for i in range(n)
        )
        found = moved(picture, top, area, dy, dx)
        self.assertEqual(found, wanted)
        self.assertTrue(is_made_of_integers(found))
        self.assertEqual(moved(dx=dx, dy=dy, area=area, top=top, picture=picture), wanted)

    def test_written_out(self):
        picture = tuple(tuple(10 * y + x for x in range(8)) for y in range(16))
        self.assertEqual(moved(picture, 8, (2, 4, 2), 0, 0), ((104, 105), (114, 115)))
        self.assertEqual(moved(picture, 8, (2, 4, 2), 2, -4), ((112, 113), (122, 123)))
        self.assertEqual(moved(picture, 0, (2, 4, 2), 1, 0), ((29, 30), (39, 40)))
        self.assertEqual(moved(picture, 0, (2, 4, 2), 0, 1), ((25, 26), (35, 36)))
        self.assertEqual(moved(picture, 0, (2, 4, 2), -1, 1), ((20, 21), (30, 31)))
        self.assertEqual(moved(picture, 8, (6, 6, 2), 31, 31), ((157, 157), (157, 157)))
        self.assertEqual(moved(picture, 0, (0, 0, 2), -31, -31), ((0, 0), (0, 0)))

    def test_without_a_picture(self):
        for n in (8, 4, 2):
            for top, dy, dx in ((0, 0, 0), (24, 31, -31), (8, -1, 1)):
                with self.subTest(n=n, top=top):
                    wanted = tuple(tuple(128 for _ in range(n)) for _ in range(n))
                    self.assertEqual(moved(None, top, (0, 8 - n, n), dy, dx), wanted)
                    self.assertEqual(moved(dx=dx, dy=dy, area=(0, 0, n), top=top, picture=None), wanted)
                    self.assertTrue(is_made_of_integers(moved(None, top, (0, 0, n), dy, dx)))

    def test_all_shifts(self):
        picture = picture_of(16, 16)
        for dy in range(-31, 32):
            for dx in (-31, -30, -17, -2, -1, 0, 1, 2, 3, 16, 30, 31):
                with self.subTest(dy=dy, dx=dx):
                    self.assert_moved(picture, 8, (4, 8, 4), dy, dx)
                    self.assert_moved(picture, 0, (2, 14, 2), dx, dy)

    def test_all_areas(self):
        source = random.Random(43)
        for rows, columns in SHAPES:
            picture = drawn_picture(source, rows, columns)
            for top in range(0, rows, 8):
                for area in AREAS[:: 3]:
                    if area[1] + area[2] <= columns:
                        dy, dx = source.randrange(-31, 32), source.randrange(-31, 32)
                        with self.subTest(rows=rows, columns=columns, top=top, area=area, dy=dy, dx=dx):
                            self.assert_moved(picture, top, area, dy, dx)

    def test_integers_of_any_size(self):
        for dy in (FAR, FAR + 1, -FAR, 1 - FAR):
            for top in (0, FAR):
                self.assert_moved(GOOD, top, (0, 0, 8), dy, -dy)

    def test_a_plain_picture(self):
        for dy in (-31, -1, 0, 1):
            for value in (0, 1, 254, 255):
                self.assertEqual(moved(plain(8, 8, value), 0, (0, 0, 8), dy, 1), plain(8, 8, value))

    def test_what_is_no_picture(self):
        for value in NO_PICTURES:
            if value is not None:
                before = copy.deepcopy(value)
                named = {"dx": 1, "dy": 1, "area": (0, 0, 8), "top": 0, "picture": value}
                with self.subTest(value=value):
                    for arguments, by_name in (((value, 0, (0, 0, 8), 1, 1), {}), ((), named)):
                        with self.assertRaises(InvalidPicture) as caught:
                            moved(*arguments, **by_name)
                        self.assertIs(caught.exception.value, value)
                    self.assertEqual(value, before)


if __name__ == "__main__":
    unittest.main()

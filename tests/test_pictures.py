import copy
import unittest

from picturetide.errors import InvalidNumber, InvalidPicture
from picturetide.pictures import (
    band_of, first_unlike, greatest_error, is_picture, plain, size_of, value_at, with_band,
)
from samples import (
    FAR, GOOD, NO_PICTURES, NO_VALUES, SHAPES, SIZES,
    is_made_of_integers, nested, picture_of, with_row, with_value,
)

NO_NUMBERS = [
    -1, -2, -FAR, FAR, True, False, None, "", "0", "a", (), (0,), ((),), [], [0], [[]],
    nested(12, tuple), nested(12, list), GOOD,
]


class IsPicture(unittest.TestCase):
    def assert_told(self, value, wanted):
        self.assertIs(is_picture(value), wanted)
        self.assertIs(is_picture(value=value), wanted)

    def test_pictures_of_all_sizes(self):
        for rows, columns in SHAPES:
            with self.subTest(rows=rows, columns=columns):
                self.assert_told(picture_of(rows, columns), True)
                self.assert_told(((0,) * columns,) * rows, True)
                self.assert_told(((255,) * columns,) * rows, True)

    def test_every_number_of_rows_and_columns(self):
        for rows in range(42):
            for columns in range(42):
                with self.subTest(rows=rows, columns=columns):
                    value = ((7,) * columns,) * rows
                    self.assert_told(value, rows in SIZES and columns in SIZES)

    def test_larger_multiples_of_8_are_none(self):
        for size in (40, 48, 64, 72, 128, 256):
            with self.subTest(size=size):
                self.assert_told(((7,) * size,) * 8, False)
                self.assert_told(((7,) * 8,) * size, False)

    def test_every_value_from_0_to_255(self):
        for value in range(-3, 260):
            with self.subTest(value=value):
                self.assert_told(((value,) * 8,) * 8, 0 <= value <= 255)
                self.assert_told(with_value(GOOD, 3, 4, value), 0 <= value <= 255)

    def test_a_wrong_value_at_any_place(self):
        for y in range(8):
            for x in range(8):
                for value in NO_VALUES:
                    with self.subTest(y=y, x=x, value=value):
                        self.assert_told(with_value(GOOD, y, x, value), False)

    def test_a_wrong_value_in_pictures_of_all_sizes(self):
        for rows, columns in SHAPES:
            picture = picture_of(rows, columns)
            for y in (0, 1, rows // 2, rows - 2, rows - 1):
                for x in (0, 1, columns // 2, columns - 2, columns - 1):
                    for value in (-1, 256, True, False, None):
                        with self.subTest(rows=rows, columns=columns, y=y, x=x, value=value):
                            self.assert_told(with_value(picture, y, x, value), False)

    def test_a_wrong_row_at_any_place(self):
        for rows, columns in ((8, 8), (16, 24), (32, 16)):
            picture = picture_of(rows, columns)
            for y in range(rows):
                row = picture[y]
                wrong = [
                    row[:-1], row[:columns - 8], row + (0,), row + row[:8], row * 2, (), list(row), [],
                    None, True, False, 0, columns, "a" * columns, "", (row,), tuple([value] for value in row),
                ]
                for other in wrong:
                    with self.subTest(rows=rows, columns=columns, y=y, row=other):
                        self.assert_told(with_row(picture, y, other), False)

    def test_a_list_in_place_of_the_picture(self):
        for rows, columns in SHAPES:
            with self.subTest(rows=rows, columns=columns):
                self.assert_told(list(picture_of(rows, columns)), False)

    def test_whatever_else_is_none(self):
        for value in NO_PICTURES:
            with self.subTest(value=value):
                self.assert_told(value, False)

    def test_nothing_that_is_handed_in_changes(self):
        for value in (NO_PICTURES, [list(row) for row in GOOD], with_row(GOOD, 2, list(GOOD[2]))):
            before = copy.deepcopy(value)
            is_picture(value)
            self.assertEqual(value, before)


class Sizes(unittest.TestCase):
    def test_size_of(self):
        for rows, columns in SHAPES:
            with self.subTest(rows=rows, columns=columns):
                picture = picture_of(rows, columns)
                self.assertEqual(size_of(picture), (rows, columns))
                self.assertEqual(size_of(picture=picture), (rows, columns))
                self.assertTrue(is_made_of_integers(size_of(picture)))

    def test_plain(self):
        for rows, columns in SHAPES:
            for value in (0, 1, 10, 128, 254, 255):
                with self.subTest(rows=rows, columns=columns, value=value):
                    wanted = tuple(tuple(value for _ in range(columns)) for _ in range(rows))
                    found = plain(rows, columns, value)
                    self.assertEqual(found, wanted)
                    self.assertTrue(is_made_of_integers(found))
                    self.assertTrue(is_picture(found))
                    self.assertEqual(plain(value=value, columns=columns, rows=rows), wanted)


class ValueAt(unittest.TestCase):
    def test_every_place_inside(self):
        for rows, columns in SHAPES:
            picture = picture_of(rows, columns)
            for y in range(0, rows, 1 if rows == 8 else 5):
                for x in range(0, columns, 1 if columns == 8 else 5):
                    with self.subTest(rows=rows, columns=columns, y=y, x=x):
                        found = value_at(picture, y, x)
                        self.assertEqual(found, picture[y][x])
                        self.assertTrue(is_made_of_integers(found))

    def test_places_at_and_beyond_the_edges(self):
        for rows, columns in SHAPES:
            picture = picture_of(rows, columns)
            for y, near_y in self.around(rows):
                for x, near_x in self.around(columns):
                    with self.subTest(rows=rows, columns=columns, y=y, x=x):
                        self.assertEqual(value_at(picture, y, x), picture[near_y][near_x])

    def around(self, count):
        """Numbers on both sides of the edges, each with the nearest one inside."""
        last = count - 1
        below = [(number, 0) for number in (-FAR, -33, -count - 1, -count, -2, -1)]
        inside = [(0, 0), (1, 1), (last - 1, last - 1), (last, last)]
        beyond = [(number, last) for number in (count, count + 1, 2 * count, 65, FAR)]
        return below + inside + beyond

    def test_by_name(self):
        picture = picture_of(8, 16)
        self.assertEqual(value_at(x=9, y=2, picture=picture), picture[2][9])
        self.assertEqual(value_at(picture, y=99, x=-4), picture[7][0])


class Differences(unittest.TestCase):
    def test_alike(self):
        for rows, columns in SHAPES:
            with self.subTest(rows=rows, columns=columns):
                picture, other = picture_of(rows, columns), picture_of(rows, columns)
                self.assertEqual(greatest_error(picture, other), 0)
                self.assertTrue(is_made_of_integers(greatest_error(picture, other)))
                self.assertIsNone(first_unlike(picture, other))
                self.assertEqual(greatest_error(picture, picture), 0)
                self.assertIsNone(first_unlike(picture, picture))

    def test_unlike_at_one_place(self):
        for rows, columns in SHAPES:
            picture = plain(rows, columns, 100)
            for y in sorted({0, 1, rows // 2, rows - 1}):
                for x in sorted({0, 1, columns // 2, columns - 1}):
                    for value, error in ((99, 1), (101, 1), (0, 100), (255, 155)):
                        with self.subTest(rows=rows, columns=columns, y=y, x=x, value=value):
                            other = with_value(picture, y, x, value)
                            self.assert_differ(picture, other, error, (y, x))

    def assert_differ(self, picture, other, error, place):
        for one, two in ((picture, other), (other, picture)):
            self.assertEqual(greatest_error(one, two), error)
            self.assertEqual(greatest_error(other=two, picture=one), error)
            self.assertEqual(first_unlike(one, two), place)
            self.assertEqual(first_unlike(other=two, picture=one), place)
            self.assertTrue(is_made_of_integers(first_unlike(one, two)))

    def test_unlike_at_several_places(self):
        picture = picture_of(16, 24)
        cases = [
            ([((2, 20), 5), ((3, 1), 9), ((15, 0), 2)], 9, (2, 20)),
            ([((0, 23), 1), ((1, 0), 1)], 1, (0, 23)),
            ([((9, 5), 3), ((9, 4), 2)], 3, (9, 4)),
            ([((15, 23), 4), ((15, 22), 40), ((14, 23), 7)], 40, (14, 23)),
        ]
        for changes, error, place in cases:
            other = picture
            for (y, x), difference in changes:
                value = picture[y][x]
                other = with_value(other, y, x, value + difference if value < 128 else value - difference)
            with self.subTest(place=place):
                self.assert_differ(picture, other, error, place)

    def test_errors_of_both_signs(self):
        picture = plain(8, 8, 100)
        other = with_value(with_value(picture, 1, 1, 107), 2, 2, 90)
        self.assert_differ(picture, other, 10, (1, 1))

    def test_unlike_everywhere(self):
        for rows, columns in SHAPES:
            with self.subTest(rows=rows, columns=columns):
                self.assert_differ(plain(rows, columns, 0), plain(rows, columns, 255), 255, (0, 0))

    def test_many_pictures_against_a_plain_count(self):
        for seed in range(1, 12):
            picture, other = picture_of(24, 16), picture_of(24, 16, seed)
            places = [(y, x) for y in range(24) for x in range(16)]
            errors = [abs(picture[y][x] - other[y][x]) for y, x in places]
            unlike = [(y, x) for y, x in places if picture[y][x] != other[y][x]]
            with self.subTest(seed=seed):
                self.assert_differ(picture, other, max(errors), unlike[0])

    def test_sizes_unlike(self):
        for function in (greatest_error, first_unlike):
            for shape in SHAPES:
                for other_shape in SHAPES:
                    if shape != other_shape:
                        picture, other = plain(*shape, 3), plain(*other_shape, 3)
                        with self.subTest(function=function.__name__, shape=shape, other=other_shape):
                            with self.assertRaises(InvalidPicture) as caught:
                                function(picture, other)
                            self.assertIs(caught.exception.value, other)
                            with self.assertRaises(InvalidPicture) as caught:
                                function(other=other, picture=picture)
                            self.assertIs(caught.exception.value, other)


class Bands(unittest.TestCase):
    def test_band_of_each_band(self):
        for rows, columns in SHAPES:
            picture = picture_of(rows, columns)
            for number in range(rows // 8):
                with self.subTest(rows=rows, columns=columns, number=number):
                    wanted = tuple(picture[8 * number + k] for k in range(8))
                    found = band_of(picture, number)
                    self.assertEqual(found, wanted)
                    self.assertTrue(is_made_of_integers(found))
                    self.assertEqual(band_of(number=number, picture=picture), wanted)

    def test_with_band_in_place_of_each_band(self):
        for rows, columns in SHAPES:
            picture = picture_of(rows, columns)
            band = picture_of(8, columns, 3)
            for number in range(rows // 8):
                with self.subTest(rows=rows, columns=columns, number=number):
                    wanted = tuple(band[y % 8] if y // 8 == number else picture[y] for y in range(rows))
                    found = with_band(picture, number, band)
                    self.assertEqual(found, wanted)
                    self.assertTrue(is_made_of_integers(found))
                    self.assertTrue(is_picture(found))
                    self.assertEqual(with_band(rows=band, number=number, picture=picture), wanted)
                    self.assertEqual(band_of(found, number), band)
                    self.assertEqual(picture, picture_of(rows, columns))

    def test_a_band_put_back_changes_nothing(self):
        picture = picture_of(32, 24)
        for number in range(4):
            self.assertEqual(with_band(picture, number, band_of(picture, number)), picture)

    def test_numbers_that_are_none(self):
        for rows, columns in SHAPES:
            picture = picture_of(rows, columns)
            for number in NO_NUMBERS + [rows // 8, rows // 8 + 1, rows - 1, rows]:
                with self.subTest(rows=rows, columns=columns, number=number):
                    self.assert_no_number(number, band_of, (picture, number), {})
                    self.assert_no_number(number, band_of, (), {"picture": picture, "number": number})
                    band = picture_of(8, columns)
                    self.assert_no_number(number, with_band, (picture, number, band), {})
                    named = {"picture": picture, "number": number, "rows": band}
                    self.assert_no_number(number, with_band, (), named)

    def assert_no_number(self, number, function, arguments, named):
        before = copy.deepcopy(number)
        with self.assertRaises(InvalidNumber) as caught:
            function(*arguments, **named)
        self.assertIs(caught.exception.value, number)
        self.assertEqual(number, before)


class NoPictures(unittest.TestCase):
    CALLS = [
        (size_of, ()), (value_at, (0, 0)), (value_at, (-FAR, FAR)),
        (greatest_error, (GOOD,)), (first_unlike, (GOOD,)), (greatest_error, (None,)), (first_unlike, ([],)),
        (band_of, (0,)), (band_of, (-1,)), (band_of, (None,)), (band_of, (9,)), (band_of, ([],)),
        (with_band, (0, GOOD)), (with_band, (True, GOOD)), (with_band, (7, GOOD)), (with_band, ("", ())),
    ]

    def assert_no_picture(self, value, function, arguments):
        before = copy.deepcopy(value)
        with self.assertRaises(InvalidPicture) as caught:
            function(*arguments)
        self.assertIs(caught.exception.value, value)
        self.assertEqual(value, before)

    def test_the_first_argument_is_told_ahead_of_all_others(self):
        for value in NO_PICTURES:
            for function, others in self.CALLS:
                with self.subTest(function=function.__name__, others=others, value=value):
                    self.assert_no_picture(value, function, (value,) + others)

    def test_the_first_argument_is_told_by_name_too(self):
        for value in NO_PICTURES:
            with self.subTest(value=value):
                with self.assertRaises(InvalidPicture) as caught:
                    with_band(rows=(), number=None, picture=value)
                self.assertIs(caught.exception.value, value)
                for function in (greatest_error, first_unlike):
                    with self.assertRaises(InvalidPicture) as caught:
                        function(other="none", picture=value)
                    self.assertIs(caught.exception.value, value)

    def test_the_second_argument_is_told_if_the_first_is_a_picture(self):
        for value in NO_PICTURES:
            for function in (greatest_error, first_unlike):
                for picture in (GOOD, picture_of(16, 32)):
                    with self.subTest(function=function.__name__, value=value):
                        self.assert_no_picture(value, function, (picture, value))


if __name__ == "__main__":
    unittest.main()

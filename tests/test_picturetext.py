import copy
import random
import unittest

from picturetide.errors import InvalidPicture, InvalidText
from picturetide.pictures import is_picture, plain
from picturetide.picturetext import picture_text, read_picture
from samples import GOOD, NO_PICTURES, SHAPES, SIZES, is_made_of_integers, picture_of

FIGURES = "0123456789abcdef"
ODD_SIGNS = list("ABCDEFGgxXzZ_-+., \n\t\r\\%:\0\x7f") + [
    "\u0660", "\u0663", "\u00b2", "\u00bd", "\uff10", "\uff41", "\u00e9", "\u2215", "\U0001f600",
]
FORMS = ["/".join(["f" * (2 * columns)] * rows) for rows, columns in SHAPES]


def told_of(text):
    """What a plain search over all forms of texts finds: the place that is wrong, None if none is."""
    most = 0
    for form in FORMS:
        fitting = 0
        for sign, wanted in zip(text, form):
            if sign != "/" if wanted == "/" else sign not in FIGURES:
                break
            fitting += 1
        if fitting == len(text) == len(form):
            return None
        most = max(most, fitting)
    return most


class Texts(unittest.TestCase):
    def test_a_text_written_out(self):
        rows = [(0, 1, 9, 10, 15, 16, 255, 160)] + [(128,) * 8] * 6 + [(31, 0, 0, 0, 0, 0, 0, 254)]
        text = "0001090a0f10ffa0/" + "8080808080808080/" * 6 + "1f000000000000fe"
        self.assertEqual(picture_text(tuple(rows)), text)
        self.assertEqual(picture_text(picture=tuple(rows)), text)
        self.assertEqual(read_picture(text), tuple(rows))
        self.assertEqual(read_picture(text=text), tuple(rows))

    def test_each_value(self):
        for value in range(256):
            with self.subTest(value=value):
                figures = FIGURES[value // 16] + FIGURES[value % 16]
                text = "/".join([figures * 8] * 8)
                self.assertEqual(picture_text(plain(8, 8, value)), text)
                self.assertEqual(read_picture(text), plain(8, 8, value))

    def test_there_and_back_for_all_sizes(self):
        for rows, columns in SHAPES:
            for seed in range(3):
                with self.subTest(rows=rows, columns=columns, seed=seed):
                    picture = picture_of(rows, columns, seed)
                    text = picture_text(picture)
                    self.assertIs(type(text), str)
                    self.assertEqual([len(row) for row in text.split("/")], [2 * columns] * rows)
                    found = read_picture(text)
                    self.assertEqual(found, picture)
                    self.assertTrue(is_picture(found))
                    self.assertTrue(is_made_of_integers(found))
                    self.assertEqual(picture_text(found), text)

    def test_what_is_no_picture(self):
        for value in NO_PICTURES:
            before = copy.deepcopy(value)
            with self.subTest(value=value):
                with self.assertRaises(InvalidPicture) as caught:
                    picture_text(value)
                self.assertIs(caught.exception.value, value)
                with self.assertRaises(InvalidPicture) as caught:
                    picture_text(picture=value)
                self.assertIs(caught.exception.value, value)
                self.assertEqual(value, before)


class WrongTexts(unittest.TestCase):
    def assert_wrong(self, text, at):
        with self.assertRaises(InvalidText) as caught:
            read_picture(text)
        self.assertEqual(caught.exception.text, text)
        self.assertEqual(caught.exception.at, at)
        self.assertIs(type(caught.exception.at), int)

    def assert_as_searched(self, text):
        at = told_of(text)
        if at is None:
            self.assertEqual(picture_text(read_picture(text)), text)
        else:
            self.assert_wrong(text, at)

    def test_the_empty_text(self):
        self.assert_wrong("", 0)
        with self.assertRaises(InvalidText) as caught:
            read_picture(text="")
        self.assertEqual((caught.exception.text, caught.exception.at), ("", 0))

    def test_one_sign(self):
        for sign in FIGURES:
            self.assert_wrong(sign, 1)
        for sign in ODD_SIGNS + ["/"]:
            self.assert_wrong(sign, 0)

    def test_texts_cut_off_anywhere(self):
        for rows, columns in SHAPES:
            text = picture_text(picture_of(rows, columns))
            whole = [size * (2 * columns + 1) - 1 for size in SIZES]
            for length in range(len(text)):
                with self.subTest(rows=rows, columns=columns, length=length):
                    if length in whole:
                        self.assertEqual(len(read_picture(text[:length])), (length + 1) // (2 * columns + 1))
                    else:
                        self.assert_wrong(text[:length], length)

    def test_an_odd_sign_at_any_place(self):
        text = picture_text(GOOD)
        for at in range(len(text)):
            for sign in ODD_SIGNS:
                with self.subTest(at=at, sign=sign):
                    self.assert_wrong(text[:at] + sign + text[at + 1:], at)
                    self.assert_wrong(text[:at] + sign + text[at:], at)
        for sign in ODD_SIGNS:
            self.assert_wrong(text + sign, len(text))
            self.assert_wrong(sign + text, 0)

    def test_an_odd_sign_in_texts_of_all_sizes(self):
        for rows, columns in SHAPES:
            text = picture_text(picture_of(rows, columns))
            for at in sorted({0, 1, 16, 17, 2 * columns, 2 * columns + 1, len(text) // 2, len(text) - 1}):
                for sign in ("A", "F", "g", " ", "\n", "\u0663"):
                    with self.subTest(rows=rows, columns=columns, at=at, sign=sign):
                        self.assert_wrong(text[:at] + sign + text[at + 1:], at)

    def test_blanks_and_line_feeds_around(self):
        text = picture_text(GOOD)
        for sign in (" ", "\n", "\t"):
            self.assert_wrong(sign + text, 0)
            self.assert_wrong(text + sign, 135)
            self.assert_wrong(text.replace("/", sign), 16)
            self.assert_wrong(text.replace("/", "/" + sign), 17)
            self.assert_wrong(text.replace("/", sign + "/"), 16)

    def test_capitals(self):
        self.assert_wrong("/".join(["AB" * 8] * 8), 0)
        self.assert_wrong("/".join(["0" * 15 + "A"] * 8), 15)
        self.assert_wrong("/".join(["0b" * 8] * 7 + ["0b" * 7 + "0B"]), 134)

    def test_a_bar_in_place_of_any_figure(self):
        for rows, columns in ((8, 8), (16, 16), (8, 24), (24, 32)):
            text = picture_text(picture_of(rows, columns))
            for at in range(len(text)):
                if text[at] != "/":
                    with self.subTest(rows=rows, columns=columns, at=at):
                        self.assert_as_searched(text[:at] + "/" + text[at + 1:])

    def test_signs_left_out_doubled_or_put_in(self):
        for rows, columns in ((8, 8), (16, 16), (8, 24), (8, 32)):
            text = picture_text(picture_of(rows, columns))
            for at in range(len(text)):
                with self.subTest(rows=rows, columns=columns, at=at):
                    self.assert_as_searched(text[:at] + text[at + 1:])
                    self.assert_as_searched(text[:at] + text[at] + text[at:])
                    self.assert_as_searched(text[:at] + "/" + text[at:])
                    self.assert_as_searched(text[:at] + "7" + text[at:])

    def test_bars_missing_doubled_first_or_last(self):
        for columns in SIZES:
            row = "5e" * columns
            text = "/".join([row] * 8)
            width = 2 * columns
            with self.subTest(columns=columns):
                self.assert_wrong("/" + text, 0)
                self.assert_wrong(text.replace("/", "//", 1), width + 1)
                self.assert_wrong("/".join([row, row, "", row, row, row, row, row]), 2 * (width + 1))
                self.assert_wrong(text + "/", len(text) + 1)
                self.assert_wrong(text + "//", len(text) + 1)
                self.assert_wrong("/".join([row] * 2) + row + "/" + "/".join([row] * 5), 2 * (width + 1) - 1)
                self.assert_wrong("/".join([row] * 32) + "/", 32 * (width + 1) - 1)
                self.assert_wrong(row * 8, 64)

    def test_a_first_row_without_an_end(self):
        self.assert_wrong("0" * 63, 63)
        self.assert_wrong("0" * 64, 64)
        self.assert_wrong("0" * 65, 64)
        self.assert_wrong("0" * 2000, 64)
        self.assert_wrong("0" * 64 + "/", 65)

    def test_rows_of_a_wrong_number_of_figures(self):
        for figures in range(80):
            if figures not in (16, 32, 48, 64):
                with self.subTest(figures=figures):
                    text = "/".join(["c" * figures] * 8)
                    self.assert_wrong(text, min(figures, 64))

    def test_numbers_of_rows(self):
        for columns in SIZES:
            for rows in range(1, 41):
                text = "/".join(["3c" * columns] * rows)
                with self.subTest(columns=columns, rows=rows):
                    if rows in SIZES:
                        self.assertEqual(read_picture(text), plain(rows, columns, 60))
                    else:
                        self.assert_wrong(text, min(len(text), 32 * (2 * columns + 1) - 1))

    def test_rows_of_unlike_length(self):
        for columns in SIZES:
            width = 2 * columns
            for number in range(1, 8):
                start = number * (width + 1)
                for figures in (0, 1, 8, 14, width - 16, width - 2, width - 1, width + 1, width + 2, width + 16):
                    if figures != width and figures >= 0:
                        rows = ["a0" * columns] * 8
                        rows[number] = "b" * figures
                        with self.subTest(columns=columns, number=number, figures=figures):
                            self.assert_wrong("/".join(rows), start + min(figures, width))

    def test_the_first_row_tells_the_number_of_columns(self):
        for columns in SIZES:
            for others in SIZES:
                if columns != others:
                    text = "/".join(["12" * columns] + ["34" * others] * 7)
                    with self.subTest(columns=columns, others=others):
                        self.assert_wrong(text, 2 * columns + 1 + 2 * min(columns, others))

    def test_the_first_of_two_wrong_signs(self):
        text = picture_text(picture_of(8, 16))
        self.assert_wrong(text[:40] + "G" + text[41:50] + "/" + text[51:], 40)
        self.assert_wrong(text[:40] + "/" + text[41:50] + "G" + text[51:], 40)
        self.assert_wrong("0" * 10 + "z" + "0" * 5 + "/", 10)
        self.assert_wrong("0" * 10 + "/" + "0" * 5 + "z", 10)

    def test_words_and_figures_that_python_would_read(self):
        for row in ("0x", " 1", "1 ", "+1", "-1", "1_", "_1", "\u0661\u0662"):
            with self.subTest(row=row):
                self.assert_as_searched("/".join([row * 8] * 8))

    def test_texts_with_several_changes_against_a_search(self):
        source = random.Random(6)
        signs = FIGURES + "//////AFg \n"
        for number in range(400):
            text = picture_text(picture_of(*source.choice(SHAPES[:6]), number))
            for _ in range(source.randrange(1, 4)):
                at = source.randrange(len(text) + 1)
                text = text[:at] + source.choice(signs) + text[at + source.randrange(3):]
            with self.subTest(number=number):
                self.assert_as_searched(text)


if __name__ == "__main__":
    unittest.main()

import random
import unittest

from models import model_forward, model_stepped
from picturetide.transforms import backward, forward, stepped, stepped_back
from samples import FAR, is_made_of_integers

HUGE = 10 ** 40

STEPS = [
    ((), ()),
    ((5, 2), (3, 3)),
    ((2, 5), (3, -3)),
    ((0, 1), (0, -1)),
    ((1, 0), (0, 1)),
    ((0, 0), (0, 0)),
    ((-1, 0), (-1, -1)),
    ((0, -1), (-1, 1)),
    ((-3, -8), (-6, 5)),
    ((255, 0), (127, 255)),
    ((0, 255), (127, -255)),
    ((1, 2, 3, 4), (1, 3, -1, -1)),
    ((4, 3, 2, 1, 9, 2), (3, 1, 5, 1, 1, 7)),
    ((FAR, -FAR), (0, 2 * FAR)),
    ((-FAR, FAR + 1), (0, -2 * FAR - 1)),
]

FORWARDS = [
    (((1, 2), (3, 4)), ((2, -1), (-2, 0))),
    (((0, 0), (0, 1)), ((0, -1), (0, 1))),
    (((7, 7), (7, 7)), ((7, 0), (0, 0))),
    (((0, 4, 8, 12), (0, 4, 8, 12), (0, 4, 8, 12), (0, 4, 8, 12)),
     ((6, -8, -4, -4), (0, 0, -4, -4), (0, 0, 0, 0), (0, 0, 0, 0))),
    (((0, 0, 0, 0), (4, 4, 4, 4), (8, 8, 8, 8), (12, 12, 12, 12)),
     ((6, 0, 0, 0), (-8, 0, 0, 0), (-4, -4, 0, 0), (-4, -4, 0, 0))),
    (((12, 0, 0, 0), (0, 0, 0, 0), (0, 0, 0, 0), (0, 0, 0, 0)),
     ((0, 1, 6, 0), (1, 3, 0, 0), (6, 0, 12, 0), (0, 0, 0, 0))),
]


def rows_to_try():
    source = random.Random(7)
    found = [row for row, _ in STEPS] + [step for _, step in STEPS]
    for length in (2, 2, 4, 6, 8, 8, 10, 32, 400):
        for size in (1, 2, 9, 255, 2000, FAR, HUGE):
            found.append(tuple(source.randrange(-size, size + 1) for _ in range(length)))
    return found


def small_pairs():
    return [(a, b) for a in range(-9, 10) for b in range(-9, 10)]


def squares_to_try():
    source = random.Random(8)
    found = [square for square, _ in FORWARDS] + [other for _, other in FORWARDS]
    for n in (2, 4, 8):
        for size in (0, 1, 2, 3, 255, 2000, FAR, HUGE):
            for _ in range(6):
                found.append(tuple(tuple(source.randrange(-size, size + 1) for _ in range(n)) for _ in range(n)))
        for value in (-1, 0, 1, -7, 255, -HUGE, HUGE):
            found.append(((value,) * n,) * n)
            for y in range(n):
                for x in range(n):
                    found.append(tuple(tuple(value if (i, k) == (y, x) else 0 for k in range(n)) for i in range(n)))
    return found


class Steps(unittest.TestCase):
    def assert_step(self, row, wanted):
        found = stepped(row)
        self.assertEqual(found, wanted)
        self.assertTrue(is_made_of_integers(found))
        self.assertEqual(stepped(row=row), wanted)
        back = stepped_back(wanted)
        self.assertEqual(back, tuple(row))
        self.assertTrue(is_made_of_integers(back))
        self.assertEqual(stepped_back(row=wanted), tuple(row))

    def test_steps_written_out(self):
        for row, wanted in STEPS:
            with self.subTest(row=row):
                self.assert_step(row, wanted)

    def test_all_pairs_of_small_integers(self):
        for a, b in small_pairs():
            with self.subTest(a=a, b=b):
                d = a - b
                self.assert_step((a, b), (b + d // 2, d))

    def test_rows_of_any_length_and_size(self):
        for row in rows_to_try():
            with self.subTest(row=row):
                self.assert_step(row, tuple(model_stepped(row)))

    def test_each_takes_back_the_other(self):
        for row in rows_to_try() + small_pairs():
            with self.subTest(row=row):
                self.assertEqual(stepped_back(stepped(row)), row)
                self.assertEqual(stepped(stepped_back(row)), row)

    def test_lists_come_back_as_tuples_and_stay_as_they_are(self):
        for row in rows_to_try():
            for function in (stepped, stepped_back):
                with self.subTest(row=row, function=function.__name__):
                    handed_in = list(row)
                    found = function(handed_in)
                    self.assertEqual(found, function(row))
                    self.assertTrue(is_made_of_integers(found))
                    self.assertEqual(handed_in, list(row))
                    self.assertEqual(function(row=handed_in), found)
        self.assertEqual(stepped([]), ())
        self.assertEqual(stepped_back([]), ())


class Squares(unittest.TestCase):
    def test_squares_written_out(self):
        for square, wanted in FORWARDS:
            with self.subTest(square=square):
                self.assertEqual(forward(square), wanted)
                self.assertEqual(forward(square=square), wanted)
                self.assertEqual(backward(wanted), square)
                self.assertEqual(backward(square=wanted), square)

    def test_as_the_document_tells_it(self):
        for square in squares_to_try():
            with self.subTest(square=square):
                self.assertEqual(forward(square), model_forward(square))

    def test_each_takes_back_the_other(self):
        for square in squares_to_try():
            with self.subTest(square=square):
                self.assertEqual(backward(forward(square)), square)
                self.assertEqual(forward(backward(square)), square)

    def test_squares_come_back(self):
        for square in squares_to_try():
            for found in (forward(square), backward(square)):
                self.assertTrue(is_made_of_integers(found))
                self.assertEqual([len(row) for row in found], [len(square)] * len(square))

    def test_a_plain_square_has_one_member_that_is_not_0(self):
        for n in (2, 4, 8):
            for value in (-HUGE, -1, 0, 3, 255):
                wanted = ((value,) + (0,) * (n - 1),) + ((0,) * n,) * (n - 1)
                with self.subTest(n=n, value=value):
                    self.assertEqual(forward(((value,) * n,) * n), wanted)
                    self.assertEqual(backward(wanted), ((value,) * n,) * n)


if __name__ == "__main__":
    unittest.main()

import random
import unittest

from picturetide.quanta import level_of, levels, place_bound, unlevelled
from picturetide.transforms import backward, forward
from samples import FAR, is_made_of_integers

QS = (1, 2, 4, 8, 16, 32, 64)
MORE_QS = QS + (3, 5, 6, 7, 9, 10, 63, 65, 100, 1001, FAR, FAR + 1)

LEVELS = [
    (0, 1, 0), (5, 1, 5), (-5, 1, -5),
    (0, 2, 0), (1, 2, 1), (-1, 2, -1), (2, 2, 1), (3, 2, 2), (-3, 2, -2), (-4, 2, -2),
    (1, 3, 0), (2, 3, 1), (-1, 3, 0), (-2, 3, -1), (4, 3, 1), (5, 3, 2),
    (1, 4, 0), (2, 4, 1), (-1, 4, 0), (-2, 4, -1), (5, 4, 1), (6, 4, 2), (-5, 4, -1), (-6, 4, -2), (-7, 4, -2),
    (2, 5, 0), (3, 5, 1), (-2, 5, 0), (-3, 5, -1), (7, 5, 1), (8, 5, 2),
    (31, 64, 0), (32, 64, 1), (-31, 64, 0), (-32, 64, -1), (95, 64, 1), (96, 64, 2), (-96, 64, -2),
    (10 ** 40, 1, 10 ** 40), (-10 ** 40, 10 ** 39, -10), (10 ** 40, 4 * 10 ** 40, 0), (10 ** 40, 2 * 10 ** 40, 1),
    (-10 ** 40, 2 * 10 ** 40, -1), (-10 ** 40 + 1, 2 * 10 ** 40, 0),
]

# For n 2, 4 and 8: with r = q // 2 each size adds u(r) + u(r + u(r)) to r.
BOUNDS = {
    1: (0, 0, 0), 2: (3, 5, 7), 3: (3, 5, 7), 4: (5, 8, 11), 5: (5, 8, 11), 6: (8, 13, 18), 7: (8, 13, 18),
    8: (9, 14, 19), 16: (18, 28, 38), 32: (36, 56, 76), 64: (72, 112, 152), 100: (113, 176, 239),
}


def drawn_square(source, n, size):
    return tuple(tuple(source.randrange(-size, size + 1) for _ in range(n)) for _ in range(n))


def ragged_square(source, n, values):
    return tuple(tuple(source.choice(values) for _ in range(n)) for _ in range(n))


def shown_square(square, q):
    return backward(unlevelled(levels(forward(square), q), q))


def greatest_difference(square, other):
    return max(abs(a - b) for row, other_row in zip(square, other) for a, b in zip(row, other_row))


class Levels(unittest.TestCase):
    def test_levels_written_out(self):
        for c, q, wanted in LEVELS:
            with self.subTest(c=c, q=q):
                self.assertEqual(level_of(c, q), wanted)
                self.assertEqual(level_of(q=q, c=c), wanted)
                self.assertIs(type(level_of(c, q)), int)

    def test_the_nearest_and_from_the_middle_the_one_further_from_0(self):
        for q in MORE_QS:
            around = [k * q + r for k in range(-3, 4) for r in (0, 1, q // 2 - 1, q // 2, q // 2 + 1, q - 1)]
            for c in around + list(range(-40, 41)):
                with self.subTest(c=c, q=q):
                    level = level_of(c, q)
                    distance = abs(c - level * q)
                    self.assertLessEqual(2 * distance, q)
                    if 2 * distance == q:
                        self.assertGreater(abs(level * q), abs(c))

    def test_the_sign_alone_tells_apart(self):
        for q in MORE_QS:
            for c in list(range(200)) + [q // 2, q - 1, q, q + q // 2, FAR, 10 ** 40]:
                with self.subTest(c=c, q=q):
                    self.assertEqual(level_of(-c, q), -level_of(c, q))

    def test_squares(self):
        source = random.Random(3)
        for n in (2, 4, 8):
            for q in MORE_QS:
                for size in (3, 2 * q, 2000, 10 ** 30):
                    square = drawn_square(source, n, size)
                    with self.subTest(n=n, q=q, size=size):
                        self.assert_square(square, q)

    def assert_square(self, square, q):
        found = levels(square, q)
        self.assertEqual(found, tuple(tuple(level_of(c, q) for c in row) for row in square))
        self.assertEqual(levels(q=q, square=square), found)
        self.assertTrue(is_made_of_integers(found))
        times = unlevelled(square, q)
        self.assertEqual(times, tuple(tuple(c * q for c in row) for row in square))
        self.assertEqual(unlevelled(q=q, square=square), times)
        self.assertTrue(is_made_of_integers(times))
        self.assertEqual(levels(times, q), square)

    def test_a_square_written_out(self):
        square = ((5, -6), (2, -2))
        self.assertEqual(levels(square, 4), ((1, -2), (1, -1)))
        self.assertEqual(unlevelled(square, 4), ((20, -24), (8, -8)))
        self.assertEqual(levels(square, 1), square)
        self.assertEqual(unlevelled(square, 1), square)


class Bounds(unittest.TestCase):
    def test_bounds_written_out(self):
        for q, wanted in BOUNDS.items():
            with self.subTest(q=q):
                self.assertEqual(tuple(place_bound(n, q) for n in (2, 4, 8)), wanted)
                self.assertEqual(place_bound(q=q, n=8), wanted[2])
                self.assertIs(type(place_bound(4, q)), int)

    def test_bounds_of_any_q(self):
        for q in list(range(1, 300)) + [FAR, FAR + 1, 10 ** 40 + 3]:
            r = q // 2
            first = -(-r // 2)
            second = -(-(r + first) // 2)
            with self.subTest(q=q):
                for n, sizes in ((2, 1), (4, 2), (8, 3)):
                    self.assertEqual(place_bound(n, q), r + sizes * (first + second))

    def assert_within(self, square, q):
        found = shown_square(square, q)
        self.assertLessEqual(greatest_difference(square, found), place_bound(len(square), q))
        if q == 1:
            self.assertEqual(found, square)

    def test_each_place_stays_within_the_bound(self):
        source = random.Random(5)
        for n in (2, 4, 8):
            for q in MORE_QS:
                for size in (1, 2, q, 255, 2000, FAR):
                    for _ in range(8):
                        with self.subTest(n=n, q=q, size=size):
                            self.assert_within(drawn_square(source, n, size), q)

    def test_members_that_lie_in_the_middle_between_two_levels(self):
        source = random.Random(9)
        for n in (2, 4, 8):
            for q in MORE_QS:
                half = q // 2
                values = [half, -half, q - half, half - 1, 1 - half, half + 1, 0, q + half, -q - half]
                for _ in range(25):
                    square = backward(ragged_square(source, n, values))
                    with self.subTest(n=n, q=q):
                        self.assert_within(square, q)

    def test_all_small_squares_of_two_rows(self):
        values = range(-3, 4)
        for a in values:
            for b in values:
                for c in values:
                    for d in values:
                        for q in (1, 2, 3, 4, 6):
                            self.assert_within(((a, b), (c, d)), q)

    def test_with_q_1_nothing_differs(self):
        source = random.Random(2)
        for n in (2, 4, 8):
            for size in (1, 255, FAR, 10 ** 40):
                square = drawn_square(source, n, size)
                with self.subTest(n=n, size=size):
                    self.assertEqual(shown_square(square, 1), square)


if __name__ == "__main__":
    unittest.main()

import copy
import functools
import random
import unittest

from picturetide.errors import InvalidNumber, InvalidPicture, InvalidPlan, InvalidStream, TooLong
from picturetide.fitting import bounds_from, fitted, length_of
from picturetide.pictures import plain
from picturetide.streams import encoded, is_stream, shown
from samples import FAR, GOOD, NO_PICTURES, drawn_picture, is_made_of_integers, leaf_of
from stream_samples import SHAPES_OF_STREAMS, any_picture, drawn_stream, moved_picture, stream_of
from test_encoded import greatest_difference

NO_NUMBERS = (-1, FAR, -FAR, True, False, None, "0", "", (), (0,), [], [0])
NAMES = ("pictures", "plan", "window", "most")


def model_bounds(bound):
    return [told for told in (bound, 2 * bound + 1, 4 * bound + 3, 8 * bound + 7, 16 * bound + 15, 32 * bound + 31,
                              64 * bound + 63, 128 * bound + 127) if told < 255] + [255]


def lengths_of(units, bands):
    """How many octets the units of each picture have."""
    return [sum(len(unit) for unit in units[at:at + bands]) for at in range(0, len(units), bands)]


@functools.lru_cache(maxsize=None)
def once_encoded(pictures, plan, window):
    return encoded(pictures, plan, window)


def model_fitted(pictures, plan, window, most):
    """What is fitted, or the number of the first picture that is longer at all; each trial codes all pictures so far."""
    bands = len(pictures[0]) // 8
    taken = []
    for number in range(len(pictures)):
        for bound in model_bounds(plan[number][2]):
            parts = tuple(part[:2] + (told,) for part, told in zip(plan, taken + [bound]))
            if lengths_of(once_encoded(pictures[:number + 1], parts, window), bands)[number] <= most:
                break
        else:
            return number
        taken.append(bound)
    parts = tuple(part[:2] + (told,) for part, told in zip(plan, taken))
    return (encoded(pictures, parts, window), tuple(taken))


class LengthOf(unittest.TestCase):
    def test_drawn_streams(self):
        source = random.Random(131)
        for size in SHAPES_OF_STREAMS:
            units = drawn_stream(source, size)
            before = copy.deepcopy(units)
            wanted = lengths_of(units, size[0])
            with self.subTest(size=size):
                self.assertEqual([length_of(units, number) for number in range(size[2])], wanted)
                self.assertEqual([length_of(number=number, units=units) for number in range(size[2])], wanted)
                self.assertIs(type(length_of(units, 0)), int)
                self.assertEqual(units, before)

    def test_a_length_written_out(self):
        # A flat leaf is one octet or two, with 16 around it.
        units = stream_of((2, 1, 2), [("key", None)] * 2, lambda *told: (leaf_of(8),))
        self.assertEqual(length_of(units, 1), 2 * len(units[0]))
        self.assertIn(len(units[0]) - 16, (0, 1, 2))

    def test_numbers_of_no_picture(self):
        for size in ((1, 1, 1), (3, 1, 2)):
            units = drawn_stream(random.Random(132), size)
            for number in NO_NUMBERS + (size[2], size[2] + 1):
                for arguments, named in (((units, number), {}), ((), {"units": units, "number": number})):
                    with self.subTest(number=number), self.assertRaises(InvalidNumber) as caught:
                        length_of(*arguments, **named)
                    self.assertIs(caught.exception.value, number)

    def test_what_is_no_stream(self):
        units = drawn_stream(random.Random(133), (2, 1, 2))
        for value in ((), [], None, 0, list(units), units[1:], units[::-1], units + units[:1], (units,), "units"):
            for number in (0, -1, None):
                for arguments, named in (((value, number), {}), ((), {"units": value, "number": number})):
                    with self.subTest(value=value), self.assertRaises(InvalidStream) as caught:
                        length_of(*arguments, **named)
                    self.assertIs(caught.exception.value, value)


class Fitted(unittest.TestCase):
    def assert_fitted(self, pictures, plan, window, most):
        before = copy.deepcopy((pictures, plan))
        wanted = model_fitted(pictures, plan, window, most)
        if isinstance(wanted, int):
            self.assert_too_long(pictures, plan, window, most, wanted)
            return None
        found = fitted(pictures, plan, window, most)
        self.assertEqual(found, wanted)
        self.assertEqual(fitted(most=most, window=window, plan=plan, pictures=pictures), wanted)
        self.assertTrue(is_made_of_integers(found))
        units, bounds = found
        self.assertIs(is_stream(units), True)
        self.assertTrue(all(length_of(units, number) <= most for number in range(len(pictures))))
        for picture, other, bound in zip(pictures, shown(units), bounds):
            self.assertLessEqual(greatest_difference(picture, other), bound)
        self.assertEqual((pictures, plan), before)
        return bounds

    def assert_too_long(self, pictures, plan, window, most, number):
        question = (pictures, plan, window, most)
        for arguments, named in ((question, {}), ((), dict(zip(NAMES, question)))):
            with self.assertRaises(TooLong) as caught:
                fitted(*arguments, **named)
            self.assertEqual(caught.exception.number, number)

    def test_each_bound_of_a_row_is_tried(self):
        picture = drawn_picture(random.Random(134), 8, 8)
        for first in (0, 1, 60, 126, 127, 128, 200, 254, 255):
            lengths = []
            for bound in model_bounds(first):
                lengths.append(len(encoded((picture,), (("key", None, bound),), 0)[0]))
            for most in sorted(set(lengths + [min(lengths) - 1, lengths[0] - 1, 10 ** 12])):
                fitting = [bound for bound, length in zip(model_bounds(first), lengths) if length <= most]
                with self.subTest(first=first, most=most):
                    bounds = self.assert_fitted((picture,), (("key", None, first),), 0, most)
                    self.assertEqual(bounds, tuple(fitting[:1]) or None)

    def test_the_bounds_from_0(self):
        self.assertEqual(bounds_from(0), [0, 1, 3, 7, 15, 31, 63, 127, 255])
        self.assertEqual(bounds_from(200), [200, 255])
        self.assertEqual(bounds_from(255), [255])
        for bound in range(256):
            self.assertEqual(bounds_from(bound), model_bounds(bound))
        found = {}
        for seed in range(2):
            picture = drawn_picture(random.Random(seed), 8, 8, range(0, 256, 5))
            for most in range(17, 100, 8):
                try:
                    found[fitted((picture,), (("key", None, 0),), 0, most)[1][0]] = True
                except TooLong:
                    pass
        self.assertGreater(len(found), 3)
        self.assertLessEqual(set(found), {0, 1, 3, 7, 15, 31, 63, 127, 255})

    def test_pictures_one_after_another(self):
        source = random.Random(135)
        for number in range(4):
            first = any_picture(source, 8, 8)
            pictures = (first, moved_picture(source, first), drawn_picture(source, 8, 8))[:source.randrange(2, 4)]
            plan = (("key", 0, 0), ("other", 0, source.choice([0, 2])), ("other", None, 9))[:len(pictures)]
            for most in (17, 18, 22, 40):
                with self.subTest(number=number, most=most):
                    self.assert_fitted(pictures, plan, 0, most)

    def test_pictures_of_two_bands(self):
        source = random.Random(136)
        pictures = (drawn_picture(source, 16, 8),)
        for most in (36, 40, 100, 170):
            self.assert_fitted(pictures, (("key", None, 0),), 1, most)

    def test_the_first_picture_that_is_longer_at_all(self):
        grey, noise = plain(8, 8, 128), drawn_picture(random.Random(137), 8, 8)
        plan = (("key", None, 0),) * 3
        least = len(encoded((grey,), plan[:1], 0)[0])
        self.assertEqual(fitted((grey,) * 3, plan, 0, least)[1], (0, 0, 0))
        for pictures, number in (((grey, grey, noise), 2), ((grey, noise, noise), 1), ((noise, grey, noise), 0)):
            self.assert_too_long(pictures, plan, 0, least, number)
            self.assertEqual(model_fitted(pictures, plan, 0, least), number)

    def test_most_below_every_length(self):
        for most in (-FAR, -1, 0, 15):
            self.assert_too_long((GOOD, GOOD), (("key", None, 0), ("key", None, 0)), 0, most, 0)

    def test_pictures_and_plan_as_lists(self):
        plan = (("key", None, 0), ("other", None, 0))
        pictures = (GOOD, GOOD)
        wanted = fitted(pictures, plan, 0, 70)
        self.assertEqual(fitted(list(pictures), list(plan), 0, 70), wanted)
        self.assertEqual(fitted(list(pictures), list(plan), 0, FAR), (encoded(pictures, plan, 0), (0, 0)))

    def test_what_encoded_raises(self):
        for pictures in [(), [], None, (GOOD, None), (GOOD, plain(8, 16, 0))] + [(value,) for value in NO_PICTURES]:
            for plan in ((("key", None, 0),), (), None):
                with self.subTest(pictures=pictures), self.assertRaises(InvalidPicture) as caught:
                    fitted(pictures, plan, 0, -1)
                self.assertIs(caught.exception.value, pictures)
        for plan in ((), [], None, (("other", None, 0),), (("key", 3, 0),), (("key", None, 256),), (["key", None, 0],),
                     (("key", None, 0),) * 2, (("key", None, True),), (("key", None, -1),)):
            for arguments, named in ((((GOOD,), plan, 0, -1), {}), ((), dict(zip(NAMES, ((GOOD,), plan, 0, -1))))):
                with self.subTest(plan=plan), self.assertRaises(InvalidPlan) as caught:
                    fitted(*arguments, **named)
                self.assertIs(caught.exception.value, plan)


if __name__ == "__main__":
    unittest.main()

import copy
import random
import unittest

from picturetide.errors import InvalidStream
from picturetide.pictures import plain
from picturetide.streams import encoded, is_stream, kinds_of, shown, units_of
from picturetide.units import read_unit, unit_of
from samples import NO_BAND_TREES, NO_PICTURES, is_made_of_integers, leaf_of, motion_of, nested, picture_of
from stream_models import model_is_stream, model_shown, model_units_of
from stream_samples import (
    SHAPES_OF_STREAMS, drawn_kinds, drawn_lost, drawn_stream, mixed, pairs_of, rest_of, stream_of,
)

NO_UNITS = [None, True, 0, -1, "unit", "", (), [], (84,), [84] * 18, nested(12, tuple), nested(12, list)]


def grey_leaf(value):
    """A leaf of 8 by 8 that shows one value where nothing stands ahead."""
    return leaf_of(8, levels=((value - 128,) + (0,) * 7,) + ((0,) * 8,) * 7)


def grey_unit(number, value, kind="key", keep=None, many=2, bands=1, band=0):
    """The unit of a band of one block that shows one value."""
    return unit_of(bands, 1, many, number, kind, keep, band, (grey_leaf(value),))


def moved_unit(number, slot, kind="other", keep=None, many=2, bands=1, band=0):
    """The unit of a band of one block that shows what is in the slot."""
    return unit_of(bands, 1, many, number, kind, keep, band, (motion_of(8, slot),))


def greys(*values):
    return tuple(plain(8, 8, value) for value in values)


def two_greys(*pairs):
    """Pictures of two bands, each of one value."""
    return tuple(plain(8, 8, upper) + plain(8, 8, lower) for upper, lower in pairs)


class Rows(unittest.TestCase):
    def assert_shown(self, values, pictures, units=None):
        before = copy.deepcopy(values)
        found = shown(list(values))
        self.assertEqual(found, pictures)
        self.assertEqual(shown(values=tuple(values)), pictures)
        self.assertTrue(is_made_of_integers(found))
        if units is not None:
            found = units_of(tuple(values))
            self.assertEqual(found, tuple(units))
            self.assertEqual(units_of(values=list(values)), tuple(units))
            self.assertTrue(is_made_of_integers(found))
        self.assertEqual(values, before)

    def assert_as_told(self, values):
        self.assert_shown(values, model_shown(values), model_units_of(values))


class WhatCounts(Rows):
    def test_no_unit_shows_nothing(self):
        for values in ([], NO_UNITS, NO_PICTURES, NO_BAND_TREES, [list(grey_unit(0, 1))], [grey_unit(0, 1)[:-1]]):
            with self.subTest(values=values):
                self.assert_shown(values, (), ())

    def test_what_is_no_unit_is_passed_over(self):
        units = [grey_unit(0, 10), grey_unit(1, 20)]
        for value in NO_UNITS + [list(units[0]), units[0] + (0,), tuple(units), units]:
            for values in ([value] + units, [units[0], value, units[1]], units + [value], [value, *units, value]):
                with self.subTest(value=value):
                    self.assert_shown(values, greys(10, 20), units)

    def test_any_sequence_and_some_twice(self):
        units = [grey_unit(0, 10), grey_unit(1, 20)]
        for values in (units[::-1], units * 2, units[::-1] * 2, units + units[:1], units[1:] * 3 + units):
            self.assert_shown(values, greys(10, 20), units)

    def test_the_first_unit_tells_the_size(self):
        units = [grey_unit(0, 10), grey_unit(1, 20)]
        longer = grey_unit(1, 30, many=3)
        higher = grey_unit(1, 30, bands=2, band=1)
        wider = unit_of(1, 2, 2, 1, "key", None, 0, (grey_leaf(30), leaf_of(8)))
        for other in (longer, higher, wider):
            for values in ([units[0], other, units[1]], units + [other]):
                self.assert_shown(values, greys(10, 20), units)
        self.assert_shown([longer] + units, greys(128, 30, 30), [longer])
        self.assert_shown([higher] + units, two_greys((128, 128), (128, 30)), [higher])
        self.assert_shown([wider] + units, (plain(8, 16, 128), plain(8, 16, 30)), [wider])
        self.assert_shown([list(longer), *units, longer], greys(10, 20), units)

    def test_the_first_unit_of_a_picture_tells_its_kind_and_keep(self):
        first = grey_unit(0, 10, bands=2)
        second = grey_unit(1, 20, bands=2, band=1)
        for told in ({"kind": "other"}, {"keep": 0}, {"kind": "other", "keep": 2}):
            other = grey_unit(1, 30, bands=2, band=0, **told)
            last = grey_unit(1, 40, bands=2, band=0)
            self.assert_shown([first, second, other], two_greys((10, 128), (10, 20)), [first, second])
            self.assert_shown([first, other, second], two_greys((10, 128), (30, 128)), [first, other])
            # What is passed over hides no other unit of its picture and band.
            self.assert_shown([first, second, other, last], two_greys((10, 128), (40, 20)), [first, last, second])
            self.assert_shown([second, other, last, first], two_greys((10, 128), (40, 20)), [first, last, second])

    def test_units_of_another_size_tell_no_kind(self):
        first = grey_unit(0, 10)
        stranger = grey_unit(1, 30, kind="other", keep=1, many=3)
        second = grey_unit(1, 20)
        self.assert_shown([first, stranger, second], greys(10, 20), [first, second])

    def test_the_first_of_a_picture_and_band_counts(self):
        first, second = grey_unit(0, 10), grey_unit(0, 11)
        self.assert_shown([first, second], greys(10, 10), [first])
        self.assert_shown([second, first], greys(11, 11), [second])
        self.assert_shown([list(first), second, first], greys(11, 11), [second])
        # One that is passed over for its size does not count ahead of others of its picture and band.
        later = grey_unit(1, 50)
        self.assert_shown([later, grey_unit(0, 12, many=3), second], greys(11, 50), [second, later])

    def test_units_by_picture_then_band(self):
        places = [(number, band) for number in range(3) for band in range(2)]
        units = [grey_unit(number, 50 * number + 10 * band, many=3, bands=2, band=band) for number, band in places]
        wanted = two_greys((0, 10), (50, 60), (100, 110))
        source = random.Random(71)
        for _ in range(10):
            values = list(units)
            source.shuffle(values)
            self.assert_shown(values, wanted, units)

    def test_drawn_rows(self):
        source = random.Random(72)
        for size in SHAPES_OF_STREAMS:
            units = drawn_stream(source, size)
            other_size = source.choice([size, size[:2] + (size[2] % 12 + 1,), source.choice(SHAPES_OF_STREAMS)])
            others = drawn_stream(source, other_size)
            left = rest_of(units, drawn_lost(source, units))
            values = mixed(source, left, source.sample(others, source.randrange(min(len(others), 6) + 1)))
            with self.subTest(size=size, other_size=other_size):
                self.assert_as_told(values)

    def test_drawn_rows_with_several_kinds_of_one_picture(self):
        source = random.Random(73)
        for number in range(30):
            size = source.choice([(2, 1, 2), (3, 1, 2), (2, 1, 3), (1, 1, 4)])
            streams = [drawn_stream(source, size) for _ in range(3)]
            values = [unit for units in streams for unit in units]
            source.shuffle(values)
            with self.subTest(number=number):
                self.assert_as_told(values[:source.randrange(1, len(values) + 1)])

    def test_whole_streams_in_the_end_of_their_limits(self):
        source = random.Random(74)
        for size in ((4, 4, 1), (1, 4, 4), (4, 1, 4), (1, 1, 12), (4, 1, 3)):
            units = drawn_stream(source, size)
            self.assert_shown(units, model_shown(units), units)


class Slots(Rows):
    def test_a_kept_picture_is_shown_again(self):
        for slot in range(3):
            values = [grey_unit(0, 10, keep=slot), moved_unit(1, slot)]
            self.assert_shown(values, greys(10, 10))
            for other in range(3):
                if other != slot:
                    self.assert_shown([values[0], moved_unit(1, other)], greys(10, 128))

    def test_a_picture_is_kept_after_it_is_shown(self):
        values = [grey_unit(0, 10, keep=0, many=3), moved_unit(1, 0, keep=0, many=3), moved_unit(2, 0, many=3)]
        self.assert_shown(values, greys(10, 10, 10))
        # Both bands of a picture find the slots as they are ahead of it, and the whole picture is kept.
        upper = [grey_unit(0, 10, keep=1, bands=2), grey_unit(0, 20, keep=1, bands=2, band=1)]
        turned = unit_of(2, 1, 2, 1, "other", 1, 0, (motion_of(8, 1, 16),))
        lower = unit_of(2, 1, 2, 1, "other", 1, 1, (motion_of(8, 1, -16),))
        self.assert_shown(upper + [turned, lower], two_greys((10, 20), (20, 10)))

    def test_a_key_picture_that_has_a_unit_empties_the_slots(self):
        ahead = [grey_unit(0, 10, keep=0, many=3)]
        behind = [moved_unit(2, 0, many=3)]
        self.assert_shown(ahead + [grey_unit(1, 20, many=3)] + behind, greys(10, 20, 128))
        self.assert_shown(ahead + [grey_unit(1, 20, "other", many=3)] + behind, greys(10, 20, 10))
        self.assert_shown(ahead + behind, greys(10, 10, 10))
        self.assert_shown(ahead + [grey_unit(1, 20, keep=0, many=3)] + behind, greys(10, 20, 20))
        self.assert_shown(ahead + [grey_unit(1, 20, keep=2, many=3)] + behind, greys(10, 20, 128))

    def test_a_key_picture_with_one_unit_empties_all_slots(self):
        ahead = [grey_unit(0, 10, keep=1, many=3, bands=2), grey_unit(0, 11, keep=1, many=3, bands=2, band=1)]
        behind = [moved_unit(2, 1, many=3, bands=2), moved_unit(2, 1, many=3, bands=2, band=1)]
        key = grey_unit(1, 20, many=3, bands=2, band=1)
        self.assert_shown(ahead + behind, two_greys((10, 11), (10, 11), (10, 11)))
        self.assert_shown(ahead + [key] + behind, two_greys((10, 11), (10, 20), (128, 128)))

    def test_the_whole_picture_is_kept_with_its_repaired_bands(self):
        ahead = [grey_unit(0, 10, many=3, bands=2), grey_unit(0, 11, many=3, bands=2, band=1)]
        kept = grey_unit(1, 20, "other", 0, many=3, bands=2, band=1)
        behind = [moved_unit(2, 0, many=3, bands=2), moved_unit(2, 0, many=3, bands=2, band=1)]
        self.assert_shown(ahead + [kept] + behind, two_greys((10, 11), (10, 20), (10, 20)))
        # Without a unit nothing tells that the picture is kept.
        self.assert_shown(ahead + behind, two_greys((10, 11), (10, 11), (128, 128)))

    def test_motion_from_an_empty_slot(self):
        for slot in range(3):
            self.assert_shown([grey_unit(0, 10), moved_unit(1, slot)], greys(10, 128))

    def test_bands_without_a_unit(self):
        lower = grey_unit(0, 10, bands=2, band=1)
        upper = grey_unit(1, 20, bands=2)
        self.assert_shown([lower], two_greys((128, 10), (128, 10)))
        self.assert_shown([upper], two_greys((128, 128), (20, 128)))
        self.assert_shown([upper, lower], two_greys((128, 10), (20, 10)))
        self.assert_shown([grey_unit(11, 9, many=12)], greys(*[128] * 11, 9))
        self.assert_shown([grey_unit(0, 9, many=12)], greys(*[9] * 12))
        wide = unit_of(2, 3, 1, 0, "key", None, 1, (grey_leaf(9), leaf_of(8), leaf_of(8)))
        self.assert_shown([wide], (plain(8, 24, 128) + plain(8, 24, 9),))

    def test_a_picture_wholly_lost_changes_no_slot(self):
        units = [
            grey_unit(0, 10, keep=0, many=5), grey_unit(1, 20, "key", 1, many=5), moved_unit(2, 0, many=5),
            moved_unit(3, 1, many=5), grey_unit(4, 30, many=5),
        ]
        self.assert_shown(units, greys(10, 20, 128, 20, 30))
        self.assert_shown(units[:1] + units[2:], greys(10, 10, 10, 128, 30))
        self.assert_shown(units[1:], greys(128, 20, 128, 20, 30))
        self.assert_shown(units[2:], greys(128, 128, 128, 128, 30))


class Streams(unittest.TestCase):
    def assert_no_stream(self, value):
        before = copy.deepcopy(value)
        with self.subTest(value=value):
            self.assertIs(is_stream(value), False)
            self.assertIs(is_stream(value=value), False)
            for arguments, named in (((value,), {}), ((), {"units": value})):
                with self.assertRaises(InvalidStream) as caught:
                    kinds_of(*arguments, **named)
                self.assertIs(caught.exception.value, value)
            self.assertEqual(value, before)

    def test_streams_and_their_kinds(self):
        source = random.Random(75)
        for size in SHAPES_OF_STREAMS:
            kinds = drawn_kinds(source, size[2])
            units = drawn_stream(source, size, kinds)
            before = copy.deepcopy(units)
            with self.subTest(size=size):
                self.assertIs(is_stream(units), True)
                self.assertIs(is_stream(value=units), True)
                self.assertEqual(kinds_of(units), tuple(kinds))
                self.assertEqual(kinds_of(units=units), tuple(kinds))
                self.assertIs(type(kinds_of(units)), tuple)
                self.assertEqual([type(kind) for kind in kinds_of(units)], [tuple] * size[2])
                self.assertEqual(units_of(units), units)
                self.assertEqual(units, before)

    def test_kinds_of_an_encoded_plan(self):
        plan = (("key", None, 0), ("other", 2, 9), ("key", 0, 0), ("other", 0, 255))
        units = encoded((picture_of(8, 8),) * 4, plan, 0)
        self.assertEqual(kinds_of(units), (("key", None), ("other", 2), ("key", 0), ("other", 0)))

    def test_any_value(self):
        for value in NO_UNITS + NO_PICTURES + NO_BAND_TREES + [tuple(NO_UNITS), ((),), grey_unit(0, 1, many=1)]:
            self.assert_no_stream(value)

    def test_a_list_of_units(self):
        units = drawn_stream(random.Random(76), (2, 1, 2))
        self.assert_no_stream(list(units))
        self.assert_no_stream([units])
        self.assert_no_stream((units,))
        self.assert_no_stream(tuple(list(unit) for unit in units))

    def test_a_unit_left_out_or_twice_or_exchanged(self):
        source = random.Random(77)
        for size in ((1, 1, 3), (2, 1, 2), (2, 2, 2), (3, 1, 1)):
            units = drawn_stream(source, size)
            for at in range(len(units)):
                self.assert_no_stream(units[:at] + units[at + 1:])
                self.assert_no_stream(units[:at + 1] + units[at:])
                self.assert_no_stream(units + units[at:at + 1])
                self.assert_no_stream(units[at:] + units[:at] if at else units + units)
                for other in range(at):
                    turned = list(units)
                    turned[at], turned[other] = turned[other], turned[at]
                    self.assert_no_stream(tuple(turned))

    def test_a_value_that_is_no_unit(self):
        units = drawn_stream(random.Random(78), (1, 1, 3))
        for value in NO_UNITS + [list(units[1]), units[1][:-1], units[1] + (0,), (units[1],)]:
            self.assert_no_stream((units[0], value, units[2]))
            self.assert_no_stream(units + (value,))
            self.assert_no_stream((value,) + units)

    def test_a_unit_of_another_size_kind_or_keep(self):
        def trees_of(kind, number, band):
            return (leaf_of(8),)
        size = (2, 1, 3)
        units = stream_of(size, [("key", 0), ("other", 1), ("other", None)], trees_of)
        self.assertIs(is_stream(units), True)
        others = [
            stream_of(size, [("key", 0), ("key", 1), ("other", None)], trees_of),
            stream_of(size, [("key", None), ("other", None), ("other", 2)], trees_of),
            stream_of((3, 1, 3), [("key", 0), ("other", 1), ("other", None)], trees_of)[:6],
            stream_of((2, 1, 4), [("key", 0), ("other", 1), ("other", None), ("key", 0)], trees_of)[:6],
            stream_of((2, 2, 3), [("key", 0), ("other", 1), ("other", None)], lambda *told: (leaf_of(8),) * 2),
        ]
        for other in others:
            for at in range(6):
                if other[at] != units[at]:
                    self.assert_no_stream(units[:at] + other[at:at + 1] + units[at + 1:])

    def test_drawn_tuples(self):
        source = random.Random(79)
        found = 0
        for _ in range(60):
            units = drawn_stream(source, source.choice([(1, 1, 2), (2, 1, 1), (1, 2, 2)]))
            values = tuple(source.choice(units) for _ in range(2))
            found += model_is_stream(values)
            self.assertEqual(is_stream(values), model_is_stream(values))
        self.assertGreater(found, 5)

    def test_pairs_are_in_the_order_of_the_units(self):
        units = drawn_stream(random.Random(70), (2, 1, 3))
        self.assertEqual([(read_unit(unit)[3], read_unit(unit)[6]) for unit in units], pairs_of(units))


if __name__ == "__main__":
    unittest.main()

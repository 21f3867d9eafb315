import copy
import random
import unittest

from models import ModelInterval, model_band_octets, model_number_puts, model_octets, model_tree_puts
from picturetide.bands import band_octets
from picturetide.errors import InvalidTree
from picturetide.units import check_of, read_unit, unit_of
from samples import (
    FAR, NO_BAND_TREES, NO_PICTURES, NO_TREES, drawn_band, is_made_of_integers, leaf_of, motion_of, nested, split_of,
)
from stream_models import model_check, model_figures, model_head, model_read_unit, model_unit, sealed

NAMES = ("bands", "blocks", "many", "number", "kind", "keep", "band", "trees")
STILL = ("flat", "down", "right", "slope")
LEAF = leaf_of(8, "slope", q=4, levels=((3, -1) + (0,) * 6,) + ((0,) * 8,) * 7)
TOLD = (2, 1, 3, 1, "other", 2, 1, (LEAF,))
UNIT = model_unit(*TOLD)


def drawn_told(source):
    """Eight things that a unit can tell."""
    bands, blocks, many = source.randrange(1, 5), source.randrange(1, 5), source.randrange(1, 13)
    number = source.randrange(many)
    kind = "key" if number == 0 else source.choice(["key", "other"])
    trees = drawn_band(source, blocks, STILL if kind == "key" else STILL + ("motion",))
    return (bands, blocks, many, number, kind, source.choice([None, 0, 1, 2]), source.randrange(bands), trees)


def unit_of_octets(payload, blocks=1, **other):
    """What would be a unit if its payload told a tree."""
    numbers = {"bands": 1, "many": 2, "number": 1, "kind_number": 1, "keep_number": 0, "band": 0}
    numbers.update(other)
    return sealed(model_head(blocks=blocks, length=len(payload), **numbers) + tuple(payload))


class Checks(unittest.TestCase):
    def test_check_of(self):
        self.assertEqual(check_of(()), 7)
        self.assertEqual(check_of((0,)), 1799)
        self.assertEqual(check_of((255, 1)), (257 * (257 * 7 + 255) + 1))
        self.assertEqual(check_of((0, 0, 0)), 7 * 257 ** 3)
        self.assertEqual(check_of((0, 0, 0, 0)), 7 * 257 ** 4 % 2147483647)
        self.assertEqual(check_of(octets=(0,)), 1799)

    def test_drawn_octets(self):
        source = random.Random(61)
        for length in list(range(20)) + [255, 256, 900]:
            octets = tuple(source.randrange(256) for _ in range(length))
            with self.subTest(length=length):
                self.assertEqual(check_of(octets), model_check(octets))
                self.assertEqual(check_of(list(octets)), model_check(octets))
                self.assertIs(type(check_of(octets)), int)
        self.assertEqual(check_of((255,) * 1000), model_check((255,) * 1000))


class UnitOf(unittest.TestCase):
    def assert_unit(self, told):
        before = copy.deepcopy(told)
        unit = unit_of(*told)
        self.assertEqual(unit, model_unit(*told))
        self.assertEqual(unit_of(**dict(reversed(list(zip(NAMES, told))))), unit)
        self.assertTrue(is_made_of_integers(unit))
        self.assertEqual(read_unit(unit), told)
        self.assertEqual(read_unit(value=unit), told)
        self.assertIs(type(read_unit(unit)), tuple)
        self.assertEqual(told, before)
        return unit

    def test_a_unit_written_out(self):
        payload = model_band_octets((leaf_of(8),))
        head = (84, 1, 1, 0, 1, 0, 0, 0, 0, 0, 0, len(payload))
        check = model_check(head + payload)
        wanted = head + payload + (check >> 24, check >> 16 & 255, check >> 8 & 255, check & 255)
        self.assertEqual(unit_of(1, 1, 1, 0, "key", None, 0, (leaf_of(8),)), wanted)

    def test_each_number_stands_in_its_place(self):
        unit = self.assert_unit((4, 3, 12, 11, "other", 0, 3, (leaf_of(8, "motion"), LEAF, LEAF)))
        self.assertEqual(unit[:10], (84, 4, 3, 0, 12, 0, 11, 1, 1, 3))
        unit = self.assert_unit((2, 4, 10, 9, "key", 2, 1, (LEAF,) * 4))
        self.assertEqual(unit[:10], (84, 2, 4, 0, 10, 0, 9, 0, 3, 1))
        self.assertEqual(unit[10:12], (0, len(unit) - 16))

    def test_each_kind_keep_and_number(self):
        for number in range(12):
            for kind in ("key", "other") if number else ("key",):
                for keep in (None, 0, 1, 2):
                    with self.subTest(number=number, kind=kind, keep=keep):
                        self.assert_unit((1, 1, 12, number, kind, keep, 0, (LEAF,)))

    def test_each_size(self):
        for bands in (1, 2, 3, 4):
            for blocks in (1, 2, 3, 4):
                for many in (1, 12):
                    with self.subTest(bands=bands, blocks=blocks, many=many):
                        self.assert_unit((bands, blocks, many, many - 1, "key", None, bands - 1, (LEAF,) * blocks))

    def test_drawn_units(self):
        source = random.Random(62)
        for number in range(60):
            with self.subTest(number=number):
                self.assert_unit(drawn_told(source))

    def test_payloads_of_more_than_255_octets(self):
        source = random.Random(63)
        levels = tuple(tuple(source.randrange(-2000, 2001) for _ in range(8)) for _ in range(8))
        for blocks in (3, 4):
            unit = self.assert_unit((1, blocks, 1, 0, "key", 1, 0, (leaf_of(8, levels=levels),) * blocks))
            self.assertGreater(len(unit) - 16, 255)
            self.assertEqual(256 * unit[10] + unit[11], len(unit) - 16)

    def test_what_is_no_band_tree_of_so_many_blocks(self):
        for value in NO_BAND_TREES + [(), (leaf_of(8),) * 2, (leaf_of(8),) * 3]:
            self.assert_refused(1, value, kind="key")
            self.assert_refused(1, value, kind="other")
        for blocks in (1, 2, 3, 4):
            for other in (1, 2, 3, 4, 5):
                if other != blocks:
                    self.assert_refused(blocks, (leaf_of(8),) * other, kind="key")
            self.assert_refused(blocks, [leaf_of(8)] * blocks, kind="other")

    def test_motion_in_a_key_picture(self):
        deep = split_of(leaf_of(4), leaf_of(4), leaf_of(4), split_of(leaf_of(2), leaf_of(2), leaf_of(2), motion_of(2)))
        for trees in ((motion_of(8),), (leaf_of(8), deep), (deep,), (split_of(motion_of(4, 2, 3, -4)), leaf_of(8))):
            self.assert_refused(len(trees), trees, kind="key")
            self.assert_unit((1, len(trees), 2, 1, "other", None, 0, trees))

    def assert_refused(self, blocks, trees, kind):
        before = copy.deepcopy(trees)
        told = (2, blocks, 3, 1, kind, 0, 1, trees)
        with self.subTest(blocks=blocks, trees=trees):
            for arguments, named in ((told, {}), ((), dict(zip(NAMES, told)))):
                with self.assertRaises(InvalidTree) as caught:
                    unit_of(*arguments, **named)
                self.assertIs(caught.exception.value, trees)
            self.assertEqual(trees, before)


class ReadUnit(unittest.TestCase):
    def assert_none(self, value):
        before = copy.deepcopy(value)
        with self.subTest(value=value):
            self.assertIsNone(read_unit(value))
            self.assertIsNone(read_unit(value=value))
            self.assertEqual(value, before)

    def test_the_unit_itself(self):
        self.assertEqual(read_unit(UNIT), TOLD)

    def test_one_octet_turned_into_another_one(self):
        for at in range(len(UNIT)):
            for octet in range(256):
                if octet != UNIT[at]:
                    self.assertIsNone(read_unit(UNIT[:at] + (octet,) + UNIT[at + 1:]), (at, octet))

    def test_cut_off_or_longer(self):
        for length in range(len(UNIT)):
            self.assert_none(UNIT[:length])
            self.assert_none(UNIT[-length:] if length else ())
            if length != len(UNIT) - 4:
                self.assert_none(sealed(UNIT[:length]))
        for more in ((0,), (0, 0, 0, 0), (84,), UNIT):
            self.assert_none(UNIT + more)
            self.assert_none(more + UNIT)
            self.assert_none(sealed(UNIT + more))
            self.assert_none(sealed(UNIT[:-4] + more))

    def test_parts_that_are_no_octets(self):
        for at in range(len(UNIT)):
            for part in (True, False, None, -1, 256, UNIT[at] + 256, UNIT[at] - 256, FAR, "a", "0", (), (UNIT[at],), []):
                self.assertIsNone(read_unit(UNIT[:at] + (part,) + UNIT[at + 1:]), (at, part))
        ones = [at for at in range(len(UNIT)) if UNIT[at] in (0, 1)]
        self.assertTrue(ones)
        for at in ones:
            self.assert_none(UNIT[:at] + (bool(UNIT[at]),) + UNIT[at + 1:])

    def test_other_values(self):
        values = NO_PICTURES + NO_BAND_TREES + NO_TREES + [
            list(UNIT), (UNIT,), [UNIT], str(UNIT), "T" * 30, (84,), (84,) * 16,
            nested(12, tuple), nested(12, list), (0,) * 16, sealed(()), sealed((84,)), sealed((84,) * 12), TOLD,
            ("84",) * 16, (None,) * 16, (84,) * 12 + (None,) * 4,
        ]
        for value in values:
            self.assert_none(value)

    def test_a_right_check_but_a_number_that_is_none(self):
        payload = model_band_octets((LEAF,))
        good = {"bands": 2, "blocks": 1, "many": 3, "number": 1, "kind_number": 1, "keep_number": 2, "band": 1}
        length = len(payload)
        self.assertIsNotNone(read_unit(sealed(model_head(length=length, **good) + payload)))
        wrong = [
            {"bands": 0}, {"bands": 1}, {"bands": 5}, {"bands": 255}, {"blocks": 0}, {"blocks": 2}, {"blocks": 5},
            {"blocks": 255}, {"many": 0}, {"many": 1}, {"many": 13}, {"many": 256}, {"many": 259}, {"many": 65535},
            {"number": 3}, {"number": 4}, {"number": 257}, {"number": 256}, {"number": 0}, {"kind_number": 2},
            {"kind_number": 255}, {"keep_number": 4}, {"keep_number": 255}, {"band": 2}, {"band": 3}, {"band": 255},
        ]
        for numbers in wrong:
            octets = model_head(length=length, **dict(good, **numbers)) + payload
            self.assert_none(sealed(octets))
        for other in (0, length - 1, length + 1, length + 4, 256 + length, 256 * length, 65535):
            self.assert_none(sealed(model_head(length=other, **good) + payload))
        for sign in (0, 83, 85, 255):
            self.assert_none(sealed((sign,) + UNIT[1:-4]))

    def test_bands_blocks_and_payload_beyond_the_greatest(self):
        payload = model_band_octets((LEAF,) * 4)
        self.assertIsNotNone(read_unit(unit_of_octets(payload, 4, bands=4, band=3)))
        self.assert_none(unit_of_octets(payload, 4, bands=5, band=3))
        # A coder puts a fifth block as it puts the others.
        interval = ModelInterval()
        for context, bit in model_tree_puts(LEAF, 8) * 5:
            interval.put(context, bit)
        self.assert_none(unit_of_octets(model_octets(interval.state()), 5))
        self.assert_none(unit_of_octets((), 0))

    def test_picture_0_is_a_key_picture(self):
        payload = model_band_octets((LEAF,))
        for many in (1, 2, 12):
            told = {"many": many, "number": 0}
            self.assertEqual(read_unit(unit_of_octets(payload, kind_number=0, **told))[4], "key")
            self.assert_none(unit_of_octets(payload, kind_number=1, **told))

    def test_octets_behind_the_payload_with_which_the_same_bits_are_read(self):
        source = random.Random(64)
        for _ in range(20):
            payload = model_band_octets(drawn_band(source, 1))
            self.assertIsNotNone(read_unit(unit_of_octets(payload)))
            self.assert_none(unit_of_octets(payload + (0,)))
            self.assert_none(unit_of_octets(payload + (0, 0)))
            self.assert_none(unit_of_octets(payload + (1,)))

    def test_a_payload_of_no_tree(self):
        no_mode = [(("split", 8), 0)] + model_number_puts("mode", 5)
        no_q = [(("split", 8), 0)] + model_number_puts("mode", 0) + model_number_puts("q", 7) + [(("empty", 8), 1)]
        for puts in (no_mode, no_q):
            interval = ModelInterval()
            for context, bit in puts:
                interval.put(context, bit)
            self.assert_none(unit_of_octets(model_octets(interval.state())))
        for payload in ((255,) * 20, (255,), (0, 0, 0)):
            self.assert_none(unit_of_octets(payload))

    def test_motion_in_a_key_picture(self):
        for trees in ((motion_of(8),), (split_of(leaf_of(4), leaf_of(4), leaf_of(4), motion_of(4, 1, 2, 3)),)):
            payload = band_octets(trees)
            self.assertEqual(read_unit(unit_of_octets(payload, kind_number=1))[7], trees)
            self.assert_none(unit_of_octets(payload, kind_number=0))

    def test_drawn_octets(self):
        source = random.Random(65)
        found = 0
        for _ in range(400):
            payload = [source.randrange(256) for _ in range(source.randrange(4))]
            unit = unit_of_octets(payload, source.choice([1, 1, 2]), kind_number=source.randrange(2))
            wanted = model_read_unit(unit)
            found += wanted is not None
            self.assertEqual(read_unit(unit), wanted)
        self.assertGreater(found, 20)

    def test_equal_calls_give_equal_results(self):
        self.assertEqual([read_unit(UNIT) for _ in range(3)], [TOLD] * 3)
        self.assertEqual(model_figures(check_of(UNIT[:-4]), 4), UNIT[-4:])


if __name__ == "__main__":
    unittest.main()

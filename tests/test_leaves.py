import copy
import random
import unittest

from models import model_band_shown
from picturetide.errors import InvalidTree
from picturetide.leaves import band_shown
from picturetide.pictures import plain
from samples import (
    MODES, NO_BAND_TREES, QUANTA, drawn_band, drawn_picture, is_made_of_integers, leaf_of, motion_of, picture_of,
    split_of,
)

EMPTY = (None, None, None)


def low_levels(n, level):
    """Levels of which the first alone is not 0: all places change alike."""
    return ((level,) + (0,) * (n - 1),) + ((0,) * n,) * (n - 1)


def rows_told(*rows):
    """8 rows, each told by its runs (value, how often)."""
    return tuple(tuple(value for value, many in row for _ in range(many)) for row in rows)


class BandShown(unittest.TestCase):
    def assert_shown(self, trees, top, slots, wanted):
        before = copy.deepcopy((trees, slots))
        found = band_shown(trees, top, slots)
        self.assertEqual(found, wanted)
        self.assertEqual(band_shown(slots=slots, top=top, trees=trees), wanted)
        self.assertTrue(is_made_of_integers(found))
        self.assertEqual((trees, slots), before)

    def test_blocks_without_levels(self):
        for mode in MODES:
            for blocks in (1, 2, 3, 4):
                with self.subTest(mode=mode, blocks=blocks):
                    self.assert_shown((leaf_of(8, mode),) * blocks, 0, EMPTY, plain(8, 8 * blocks, 128))

    def test_plain_levels_written_out(self):
        for q, level, value in ((1, 5, 133), (1, -28, 100), (4, 3, 140), (64, 1, 192), (64, -1, 64),
                                (2, -64, 0), (1, 127, 255), (1, 128, 255), (64, 2000, 255), (1, -128, 0),
                                (1, -129, 0), (64, -2000, 0)):
            with self.subTest(q=q, level=level):
                leaf = leaf_of(8, q=q, levels=low_levels(8, level))
                self.assert_shown((leaf,), 0, EMPTY, plain(8, 8, value))

    def test_blocks_that_ask_the_block_ahead(self):
        first = leaf_of(8, levels=low_levels(8, -28))
        for mode, value in (("flat", 100), ("right", 100), ("slope", 100), ("down", 128), ("motion", 128)):
            with self.subTest(mode=mode):
                wanted = tuple((100,) * 8 + (value,) * 8 for _ in range(8))
                self.assert_shown((first, leaf_of(8, mode)), 0, EMPTY, wanted)

    def test_quarters_written_out(self):
        quarters = (
            leaf_of(4, levels=low_levels(4, -28)), leaf_of(4, "down", levels=low_levels(4, 2)),
            leaf_of(4, "right", q=8, levels=low_levels(4, -1)), leaf_of(4, "slope"),
        )
        above = ((100, 4), (130, 4))
        below = ((120, 4), (150, 4))
        self.assert_shown((split_of(*quarters),), 8, EMPTY, rows_told(*[above] * 4, *[below] * 4))
        turned = (quarters[1], quarters[0], leaf_of(4, "down"), leaf_of(4, "flat"))
        # Of the upper right quarter the mean is that of the four values to its left, 130.
        above = ((130, 4), (102, 4))
        below = ((130, 4), (116, 4))
        self.assert_shown((split_of(*turned),), 0, EMPTY, rows_told(*[above] * 4, *[below] * 4))

    def test_a_neighbour_is_asked_for_what_is_shown_clipped(self):
        first = leaf_of(4, levels=low_levels(4, 2000))
        last = leaf_of(4, levels=low_levels(4, -55))
        wanted = rows_told(*[((255, 4), (200, 4))] * 4, *[((255, 4), (228, 4))] * 4)
        self.assert_shown((split_of(first, last, leaf_of(4, "down"), leaf_of(4, "flat")),), 0, EMPTY, wanted)

    def test_levels_change_single_places(self):
        levels = ((0, 0), (0, 1))
        # Backward makes ((1, 0), (0, 0)) of these levels.
        leaf = leaf_of(2, levels=levels)
        tree = split_of(split_of(leaf, leaf_of(2), leaf_of(2), leaf_of(2)), leaf_of(4), leaf_of(4), leaf_of(4))
        found = band_shown((tree,), 0, EMPTY)
        self.assertEqual(found, model_band_shown((tree,), 0, EMPTY))
        self.assertEqual(found[0][:2] + found[1][:2], (129, 128, 128, 128))

    def test_motion_from_each_slot(self):
        slots = (plain(16, 8, 10), plain(16, 8, 20), None)
        for slot, value in ((0, 10), (1, 20), (2, 128)):
            for dy, dx in ((0, 0), (-31, 31), (1, -1)):
                with self.subTest(slot=slot, dy=dy, dx=dx):
                    self.assert_shown((motion_of(8, slot, dy, dx),), 8, slots, plain(8, 8, value))

    def test_motion_takes_the_places_of_the_band(self):
        picture = picture_of(24, 16)
        slots = (None, picture, None)
        for top in (0, 8, 16):
            wanted = picture[top:top + 8]
            with self.subTest(top=top):
                self.assert_shown((motion_of(8, 1), motion_of(8, 1)), top, slots, wanted)
                quarters = split_of(motion_of(4, 1))
                self.assert_shown((quarters, split_of(split_of(motion_of(2, 1)))), top, slots, wanted)
        wanted = tuple(row[2:10] + row[10:16] + row[15:16] * 2 for row in picture[9:17])
        self.assert_shown((motion_of(8, 1, 2, 4), motion_of(8, 1, 2, 4)), 8, slots, wanted)

    def test_drawn_bands_in_empty_and_full_slots(self):
        source = random.Random(51)
        for number in range(120):
            blocks, bands = source.randrange(1, 5), source.randrange(1, 5)
            trees = drawn_band(source, blocks)
            pictures = [drawn_picture(source, 8 * bands, 8 * blocks) for _ in range(3)]
            slots = tuple(picture if source.randrange(3) else None for picture in pictures)
            top = 8 * source.randrange(bands)
            with self.subTest(number=number):
                self.assert_shown(trees, top, slots, model_band_shown(trees, top, slots))

    def test_each_mode_and_q(self):
        source = random.Random(52)
        picture = drawn_picture(source, 8, 16)
        for mode in MODES:
            for q in QUANTA:
                for n, around in ((8, lambda tree: tree), (4, split_of), (2, lambda tree: split_of(split_of(tree)))):
                    levels = tuple(tuple(source.randrange(-6, 7) for _ in range(n)) for _ in range(n))
                    slots = (picture, None, picture)
                    by = (2, 3, -5) if mode == "motion" else (0, 0, 0)
                    trees = (around(leaf_of(n, mode, *by, q, levels)),) * 2
                    with self.subTest(mode=mode, q=q, n=n):
                        self.assert_shown(trees, 0, slots, model_band_shown(trees, 0, slots))

    def test_equal_calls_give_equal_rows(self):
        source = random.Random(53)
        slots = (picture_of(8, 8), None, None)
        rows = [(tree,) for tree in drawn_band(source, 4)]
        first = [band_shown(trees, 0, slots) for trees in rows]
        self.assertEqual([band_shown(trees, 0, slots) for trees in rows[::-1]], first[::-1])

    def test_what_is_no_band_tree(self):
        for value in NO_BAND_TREES:
            before = copy.deepcopy(value)
            for slots in (EMPTY, (picture_of(8, 8),) * 3):
                with self.subTest(value=value):
                    named = {"slots": slots, "top": 0, "trees": value}
                    for arguments, by_name in (((value, 0, slots), {}), ((), named)):
                        with self.assertRaises(InvalidTree) as caught:
                            band_shown(*arguments, **by_name)
                        self.assertIs(caught.exception.value, value)
            self.assertEqual(value, before)


if __name__ == "__main__":
    unittest.main()

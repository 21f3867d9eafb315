import copy
import random
import unittest

from models import model_band_octets, model_read_band, model_tree_puts
from picturetide.bands import band_octets, read_band
from picturetide.coders import Coder
from picturetide.errors import InvalidTree
from picturetide.numbers import put_number, put_signed
from picturetide.trees import is_band_tree
from samples import (
    MODES, NO_BAND_TREES, QUANTA, drawn_band, empty_levels, is_made_of_integers, leaf_of, motion_of, split_of,
)

STILL = MODES[:4]
ONE_LEVEL = ((0, 0), (0, -1))


def trees_to_try():
    """Band trees with each mode, slot, motion, q and size, and drawn ones."""
    source = random.Random(31)
    found = [(leaf_of(8, mode, q=q),) for mode in MODES for q in QUANTA]
    found += [(motion_of(8, slot, dy, dx),) for slot in (0, 1, 2) for dy in (-31, 0, 31) for dx in (-31, -1, 31)]
    found += [(split_of(leaf_of(4, mode)),) * 2 for mode in MODES]
    found += [(split_of(split_of(leaf_of(2, levels=ONE_LEVEL))),) * blocks for blocks in (1, 2, 3, 4)]
    for n, around in ((8, lambda leaf: leaf), (4, split_of), (2, lambda leaf: split_of(split_of(leaf)))):
        for level in (1, -1, 2000, -2000):
            for y in range(n):
                for x in (0, y, n - 1):
                    levels = tuple(tuple(level if (i, k) == (y, x) else 0 for k in range(n)) for i in range(n))
                    found.append((around(leaf_of(n, "down", levels=levels)),))
    return found + [drawn_band(source, source.randrange(1, 5)) for _ in range(40)]


def octets_of_puts(puts):
    coder = Coder()
    for context, bit in puts:
        coder.put(context, bit)
    return coder.octets()


def leaf_octets(mode=0, motion=(), q=0, levels=()):
    """The octets of one leaf of 8 by 8, from whatever numbers are told; without levels they are all 0."""
    coder = Coder()
    coder.put(("split", 8), 0)
    put_number(coder, "mode", mode)
    for word, v in zip(("slot", "dy", "dx"), motion):
        (put_number if word == "slot" else put_signed)(coder, word, v)
    put_number(coder, "q", q)
    coder.put(("empty", 8), 0 if levels else 1)
    for at, level in enumerate(levels):
        y, x = divmod(at, 8)
        put_signed(coder, "low" if at == 0 else "mid" if y < 2 and x < 2 else "high", level)
    return coder.octets()


class Writing(unittest.TestCase):
    def test_octets_written_out(self):
        # Four bits at even chances: no split, mode 0, q 0, and that all levels are 0.
        self.assertEqual(band_octets((leaf_of(8),)), (16,))
        self.assertEqual(band_octets((leaf_of(8, "down"),)), octets_of_puts([
            (("split", 8), 0), (("mode", 0, 0), 1), (("mode", 0, 1), 0), (("mode", 1, 0), 0),
            (("q", 0, 0), 0), (("empty", 8), 1),
        ]))
        quarter = [
            (("split", 4), 0), (("mode", 0, 0), 1), (("mode", 0, 1), 1), (("mode", 0, 2), 0), (("mode", 1, 1), 0),
            (("mode", 1, 0), 1), (("slot", 0, 0), 1), (("slot", 0, 1), 0), (("slot", 1, 0), 0),
            (("dy", 0, 0), 1), (("dy", 0, 1), 0), (("dy", 1, 0), 1), (("dx", 0, 0), 0),
            (("q", 0, 0), 1), (("q", 0, 1), 0), (("q", 1, 0), 1), (("empty", 4), 1),
        ]
        tree = split_of(leaf_of(4, "motion", 1, -1, 0, 4))
        self.assertEqual(band_octets((tree,)), octets_of_puts([(("split", 8), 1)] + 4 * quarter))

    def test_words_of_levels_written_out(self):
        levels = ((1, 2, 0, 0), (-1, 0, 1, 0), (0, 0, -2, 0), (1, 0, 0, 0))
        leaf = leaf_of(4, levels=levels)
        ahead = [(("split", 4), 0), (("mode", 0, 0), 0), (("q", 0, 0), 0), (("empty", 4), 0)]
        words = [
            "low", "mid", "high", "high", "mid", "mid", "high", "high",
            "high", "high", "high", "high", "high", "high", "high", "high",
        ]
        puts = []
        for word, level in zip(words, [level for row in levels for level in row]):
            puts += {
                0: [((word, 0, 0), 0)],
                1: [((word, 0, 0), 1), ((word, 0, 1), 0), ((word, 1, 0), 0)],
                -1: [((word, 0, 0), 1), ((word, 0, 1), 0), ((word, 1, 0), 1)],
                2: [((word, 0, 0), 1), ((word, 0, 1), 1), ((word, 0, 2), 0), ((word, 1, 1), 0), ((word, 1, 0), 0)],
                -2: [((word, 0, 0), 1), ((word, 0, 1), 1), ((word, 0, 2), 0), ((word, 1, 1), 0), ((word, 1, 0), 1)],
            }[level]
        wanted = octets_of_puts([(("split", 8), 1)] + 4 * (ahead + puts))
        self.assertEqual(band_octets((split_of(leaf),)), wanted)

    def test_areas_of_2_tell_no_split(self):
        leaf = leaf_of(2, levels=ONE_LEVEL)
        levels = [(("low", 0, 0), 0), (("mid", 0, 0), 0), (("mid", 0, 0), 0),
                  (("mid", 0, 0), 1), (("mid", 0, 1), 0), (("mid", 1, 0), 1)]
        told = [(("mode", 0, 0), 0), (("q", 0, 0), 0), (("empty", 2), 0)] + levels
        puts = [(("split", 8), 1)] + 4 * ([(("split", 4), 1)] + 4 * told)
        self.assertEqual(band_octets((split_of(split_of(leaf)),)), octets_of_puts(puts))

    def test_all_trees(self):
        for trees in trees_to_try():
            with self.subTest(trees=trees):
                found = band_octets(trees)
                self.assertEqual(found, model_band_octets(trees))
                self.assertEqual(band_octets(trees=trees), found)
                self.assertTrue(is_made_of_integers(found))

    def test_equal_calls_give_equal_octets(self):
        rows = trees_to_try()[::9]
        first = [band_octets(trees) for trees in rows]
        again = [band_octets(copy.deepcopy(trees)) for trees in rows[::-1]]
        self.assertEqual(first, again[::-1])

    def test_what_is_no_band_tree(self):
        for value in NO_BAND_TREES:
            before = copy.deepcopy(value)
            with self.subTest(value=value):
                for arguments, named in (((value,), {}), ((), {"trees": value})):
                    with self.assertRaises(InvalidTree) as caught:
                        band_octets(*arguments, **named)
                    self.assertIs(caught.exception.value, value)
                self.assertEqual(value, before)


class Reading(unittest.TestCase):
    def assert_read(self, octets, blocks, kind, wanted):
        before = tuple(list(octets))
        found = read_band(octets, blocks, kind)
        self.assertEqual(found, wanted)
        self.assertEqual(read_band(kind=kind, blocks=blocks, octets=octets), wanted)
        self.assertEqual(octets, before)
        if wanted is not None:
            self.assertTrue(is_band_tree(found, blocks))
            self.assertEqual(band_octets(found), octets)

    def test_all_trees(self):
        for trees in trees_to_try():
            octets = band_octets(trees)
            moves = "'motion'" in repr(trees)
            with self.subTest(trees=trees):
                self.assert_read(octets, len(trees), "other", trees)
                self.assert_read(octets, len(trees), "key", None if moves else trees)

    def test_motion_in_a_key_picture_at_any_depth(self):
        for leaf in (motion_of(8), split_of(leaf_of(4), leaf_of(4), leaf_of(4), motion_of(4)),
                     split_of(leaf_of(4), leaf_of(4), split_of(motion_of(2, 2, 1, 1)), leaf_of(4))):
            for trees in ((leaf,), (leaf_of(8), leaf), (leaf, leaf_of(8)), (leaf_of(8),) * 3 + (leaf,)):
                self.assert_read(band_octets(trees), len(trees), "key", None)
                self.assert_read(band_octets(trees), len(trees), "other", trees)

    def assert_as_model(self, octets, blocks):
        self.assert_read(octets, blocks, "other", model_read_band(octets, blocks, "other"))

    def test_zeros_behind(self):
        for trees in trees_to_try():
            octets = band_octets(trees)
            for many in (1, 2, 9):
                with self.subTest(trees=trees, many=many):
                    self.assertIsNone(read_band(octets + (0,) * many, len(trees), "other"))

    def test_other_octets_behind(self):
        for trees in trees_to_try()[::7]:
            octets = band_octets(trees)
            for behind in ((1,), (255,), (128, 7), (0, 0, 1)):
                with self.subTest(trees=trees, behind=behind):
                    self.assert_as_model(octets + behind, len(trees))

    def test_octets_ended_too_early(self):
        for trees in trees_to_try()[::7]:
            octets = band_octets(trees)
            for length in range(0, len(octets), 1 + len(octets) // 12):
                with self.subTest(trees=trees, length=length):
                    self.assert_as_model(octets[:length], len(trees))

    def test_another_number_of_blocks(self):
        for trees in trees_to_try()[::5]:
            octets = band_octets(trees)
            for blocks in (1, 2, 3, 4):
                with self.subTest(trees=trees, blocks=blocks):
                    self.assert_as_model(octets, blocks)

    def test_other_octets_that_tell_the_same_bits(self):
        for trees in trees_to_try()[::7]:
            octets = band_octets(trees)
            number = sum(octet * 256 ** at for at, octet in enumerate(octets[::-1]))
            for more in (1, 2, 3):
                for figures in (len(octets), len(octets) + 1):
                    value = (number * 256 ** (figures - len(octets))) + more
                    other = tuple(value // 256 ** (figures - 1 - at) % 256 for at in range(figures))
                    with self.subTest(trees=trees, other=other):
                        found = read_band(other, len(trees), "other")
                        self.assertNotEqual(found, trees)
                        self.assertEqual(found, model_read_band(other, len(trees), "other"))

    def test_numbers_beyond(self):
        rows = (0,) * 64
        for name, octets in {
            "mode 5": leaf_octets(mode=5), "mode 65534": leaf_octets(mode=65534),
            "slot 3": leaf_octets(4, (3, 0, 0)), "slot 65534": leaf_octets(4, (65534, 0, 0)),
            "dy 32": leaf_octets(4, (0, 32, 0)), "dy -32": leaf_octets(4, (0, -32, 0)),
            "dx 32": leaf_octets(4, (0, 0, 32)), "dx -32": leaf_octets(4, (2, 31, -32)),
            "dx -32767": leaf_octets(4, (0, 0, -32767)),
            "q 7": leaf_octets(q=7), "q 8": leaf_octets(q=8), "q 65534": leaf_octets(q=65534),
            "level 2001": leaf_octets(levels=(2001,) + rows[1:]),
            "level -2001": leaf_octets(levels=rows[1:] + (-2001,)),
            "level 32767": leaf_octets(levels=rows[:9] + (32767,) + rows[10:]),
            "levels of 0 alone": leaf_octets(levels=rows),
        }.items():
            with self.subTest(name=name):
                self.assert_read(octets, 1, "other", None)
                self.assert_read(octets, 1, "key", None)

    def test_numbers_at_the_edges(self):
        rows = (0,) * 64
        square = (((2000,) + rows[:7],) + (rows[:8],) * 6 + (rows[:7] + (-2000,),))
        for octets, leaf in (
            (leaf_octets(), leaf_of(8)),
            (leaf_octets(3), leaf_of(8, "slope")),
            (leaf_octets(4, (0, 0, 0)), motion_of(8)),
            (leaf_octets(4, (2, 31, -31)), motion_of(8, 2, 31, -31)),
            (leaf_octets(4, (2, -31, 31), 6), motion_of(8, 2, -31, 31, 64)),
            (leaf_octets(q=6), leaf_of(8, q=64)),
            (leaf_octets(levels=(2000,) + rows[2:] + (-2000,)), leaf_of(8, levels=square)),
        ):
            with self.subTest(leaf=leaf):
                self.assert_read(octets, 1, "other", (leaf,))

    def test_a_split_whose_areas_tell_levels_of_0_alone(self):
        for n in (4, 2):
            leaf = leaf_of(n, levels=((1,) + (0,) * (n - 1),) + empty_levels(n)[1:])
            tree = split_of(leaf) if n == 4 else split_of(split_of(leaf))
            puts = model_tree_puts(tree, 8)
            plain = []
            for context, bit in puts:
                if context[0] == "low":
                    if context[1:] == (0, 0):
                        plain.append((context, 0))
                else:
                    plain.append((context, bit))
            self.assert_read(octets_of_puts(puts), 1, "other", (tree,))
            self.assert_read(octets_of_puts(plain), 1, "other", None)

    def test_any_octets(self):
        source = random.Random(32)
        rows = [(), (0,), (255,), (128,), (16,), (255,) * 60, (0,) * 60, (170,) * 9]
        rows += [(octet,) for octet in range(256)]
        rows += [tuple(source.randrange(256) for _ in range(source.randrange(2, 9))) for _ in range(500)]
        rows += [(source.randrange(64), source.randrange(256)) for _ in range(300)]
        found = 0
        for octets in rows:
            for blocks, kind in ((1, "key"), (1, "other"), (2, "other"), (4, "key")):
                wanted = model_read_band(octets, blocks, kind)
                found += wanted is not None
                with self.subTest(octets=octets, blocks=blocks, kind=kind):
                    self.assert_read(octets, blocks, kind, wanted)
        self.assertGreater(found, 30)

    def test_octets_with_one_changed(self):
        source = random.Random(33)
        for trees in trees_to_try()[::6]:
            octets = band_octets(trees)
            for at in sorted({0, 1, len(octets) // 2, len(octets) - 1}):
                if at < len(octets):
                    other = octets[:at] + ((octets[at] + source.randrange(1, 256)) % 256,) + octets[at + 1:]
                    with self.subTest(trees=trees, other=other):
                        self.assert_as_model(other, len(trees))


if __name__ == "__main__":
    unittest.main()

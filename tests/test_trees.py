import copy
import random
import unittest

from models import model_is_band_tree, model_leaves, model_tree_price
from picturetide.errors import InvalidTree
from picturetide.trees import is_band_tree, leaves_of, price_of_band, price_of_tree
from samples import (
    FAR, MODES, NO_BAND_TREES, NO_TREES, QUANTA, drawn_band, drawn_tree, leaf_of, motion_of, nested, split_of,
)

MIXED = split_of(
    leaf_of(4, "down", q=8),
    split_of(leaf_of(2, "right"), motion_of(2, 2, -31, 31, 64), leaf_of(2, levels=((1, -2), (3, -2000))), leaf_of(2)),
    motion_of(4, 1, 5, -6),
    leaf_of(4, "slope", levels=((2000, 0, 0, 0),) + ((0,) * 4,) * 3),
)

WRONG = [
    -1, 1, 2, 3, 32, -32, 2001, -2001, FAR, True, False, None, "", "leaf", "split", "flat", "motion", "0",
    (), [], (0,), [0], (0, 0), ((0, 0), (0, 0)), leaf_of(8), leaf_of(4), leaf_of(2), split_of(leaf_of(2)),
    split_of(leaf_of(4)), nested(5, tuple),
]


def with_part(value, path, part):
    """The tuples of value with another part where the path leads."""
    if not path:
        return part
    at = path[0]
    return value[:at] + (with_part(value[at], path[1:], part),) + value[at + 1:]


def part_at(value, path):
    for at in path:
        value = value[at]
    return value


def paths_of(value):
    """The ways to all parts of tuples within one another, the first one to the whole."""
    found = [()]
    if isinstance(value, tuple):
        for at, part in enumerate(value):
            found += [(at,) + path for path in paths_of(part)]
    return found


class IsBandTree(unittest.TestCase):
    def assert_told(self, value, blocks, wanted):
        self.assertIs(is_band_tree(value, blocks), wanted)
        self.assertIs(is_band_tree(blocks=blocks, value=value), wanted)

    def test_band_trees_of_all_numbers_of_blocks(self):
        for blocks in (1, 2, 3, 4):
            for tree in (leaf_of(8), split_of(leaf_of(4)), split_of(split_of(leaf_of(2))), MIXED):
                for many in range(7):
                    with self.subTest(blocks=blocks, many=many):
                        self.assert_told((tree,) * many, blocks, many == blocks)

    def test_drawn_band_trees(self):
        source = random.Random(21)
        for number in range(80):
            blocks = source.randrange(1, 5)
            trees = drawn_band(source, blocks)
            with self.subTest(number=number):
                for other in (1, 2, 3, 4):
                    self.assert_told(trees, other, other == blocks)

    def test_every_mode_slot_motion_and_q(self):
        for mode in MODES:
            for q in range(-2, 140):
                self.assert_told((leaf_of(8, mode, q=q),), 1, q in QUANTA)
            for slot in range(-2, 6):
                wanted = 0 <= slot <= 2 if mode == "motion" else slot == 0
                self.assert_told((leaf_of(8, mode, slot),), 1, wanted)
            for by in range(-40, 41):
                wanted = -31 <= by <= 31 if mode == "motion" else by == 0
                with self.subTest(mode=mode, by=by):
                    self.assert_told((leaf_of(8, mode, dy=by),), 1, wanted)
                    self.assert_told((leaf_of(8, mode, dx=by),), 1, wanted)

    def test_levels_from_minus_2000_to_2000(self):
        for level in (-FAR, -2001, -2000, -1999, -1, 0, 1, 1999, 2000, 2001, FAR):
            for n, around in ((8, lambda tree: tree), (4, split_of), (2, lambda tree: split_of(split_of(tree)))):
                for y in (0, n - 1):
                    for x in (0, n - 1):
                        levels = tuple(
                            tuple(level if (i, k) == (y, x) else 0 for k in range(n)) for i in range(n)
                        )
                        with self.subTest(level=level, n=n, y=y, x=x):
                            self.assert_told((around(leaf_of(n, levels=levels)),), 1, -2000 <= level <= 2000)

    def test_squares_of_every_size(self):
        for n in range(20):
            leaf = leaf_of(n)
            with self.subTest(n=n):
                self.assert_told((leaf,), 1, n == 8)
                self.assert_told((split_of(leaf),), 1, n == 4)
                self.assert_told((split_of(split_of(leaf)),), 1, n == 2)
                self.assert_told((split_of(split_of(split_of(leaf))),), 1, False)

    def test_numbers_of_parts_of_a_split(self):
        for many in range(7):
            with self.subTest(many=many):
                self.assert_told((("split", (leaf_of(4),) * many),), 1, many == 4)

    def test_what_is_none(self):
        for value in NO_BAND_TREES:
            before = copy.deepcopy(value)
            for blocks in (1, 2, 3, 4):
                with self.subTest(value=value, blocks=blocks):
                    self.assert_told(value, blocks, False)
                    self.assertEqual(value, before)

    def test_another_part_at_any_depth(self):
        for trees in ((MIXED,), (leaf_of(8), split_of(leaf_of(4)))):
            blocks = len(trees)
            told = {True: 0, False: 0}
            for path in paths_of(trees):
                for part in WRONG:
                    value = with_part(trees, path, part)
                    wanted = model_is_band_tree(value, blocks)
                    told[wanted] += 1
                    with self.subTest(path=path, part=part):
                        self.assertIs(is_band_tree(value, blocks), wanted)
            self.assertGreater(min(told.values()), 30)

    def test_lists_bools_and_none_at_any_depth(self):
        for trees in ((MIXED,), (leaf_of(8), MIXED)):
            for path in paths_of(trees):
                part = part_at(trees, path)
                others = [list(part), part + (part[-1],), part[:-1]] if isinstance(part, tuple) else [[part], (part,)]
                if isinstance(part, int):
                    others += [True, False, bool(part), None, str(part)]
                for other in others:
                    with self.subTest(path=path, other=other):
                        self.assert_told(with_part(trees, path, other), len(trees), False)

    def test_a_longer_or_shorter_row_of_parts(self):
        self.assert_told((leaf_of(8) + (0,),), 1, False)
        self.assert_told((leaf_of(8)[:-1],), 1, False)
        self.assert_told((split_of(leaf_of(4)) + ((),),), 1, False)


class Leaves(unittest.TestCase):
    def assert_leaves(self, tree, wanted):
        found = leaves_of(tree)
        self.assertEqual(found, wanted)
        self.assertEqual(leaves_of(tree=tree), wanted)
        self.assertIs(type(found), tuple)
        for place in found:
            self.assertIs(type(place), tuple)
            self.assertEqual([type(part) for part in place], [int, int, int, tuple])

    def test_a_leaf_alone(self):
        for n in (8, 4, 2):
            for leaf in (leaf_of(n), motion_of(n, 2, -3, 4, 16)):
                with self.subTest(n=n):
                    self.assert_leaves(leaf, ((0, 0, n, leaf),))

    def test_splits_written_out(self):
        a, b, c, d = leaf_of(4, "flat"), leaf_of(4, "down"), leaf_of(4, "right"), leaf_of(4, "slope")
        self.assert_leaves(split_of(a, b, c, d), ((0, 0, 4, a), (0, 4, 4, b), (4, 0, 4, c), (4, 4, 4, d)))
        a, b, c, d = leaf_of(2, "flat"), leaf_of(2, "down"), leaf_of(2, "right"), leaf_of(2, "slope")
        quarter = split_of(a, b, c, d)
        self.assert_leaves(quarter, ((0, 0, 2, a), (0, 2, 2, b), (2, 0, 2, c), (2, 2, 2, d)))
        e = leaf_of(4, "motion", 1)
        self.assert_leaves(split_of(e, e, quarter, e), (
            (0, 0, 4, e), (0, 4, 4, e),
            (4, 0, 2, a), (4, 2, 2, b), (6, 0, 2, c), (6, 2, 2, d),
            (4, 4, 4, e),
        ))

    def test_drawn_trees(self):
        source = random.Random(22)
        for n in (8, 4, 2):
            for number in range(40):
                tree = drawn_tree(source, n)
                with self.subTest(n=n, number=number):
                    self.assert_leaves(tree, tuple(model_leaves(tree, 0, 0, n)))

    def test_all_areas_are_covered_once(self):
        source = random.Random(23)
        for n in (8, 4, 2):
            for _ in range(20):
                places = [
                    (y + i, x + k) for y, x, m, leaf in leaves_of(drawn_tree(source, n))
                    for i in range(m) for k in range(m)
                ]
                self.assertEqual(sorted(places), [(y, x) for y in range(n) for x in range(n)])


class Prices(unittest.TestCase):
    def assert_price(self, tree, price):
        self.assertEqual(price_of_tree(tree), price)
        self.assertEqual(price_of_tree(tree=tree), price)
        self.assertIs(type(price_of_tree(tree)), int)

    def test_prices_written_out(self):
        self.assert_price(leaf_of(8), 2 + 1 + 1)
        self.assert_price(leaf_of(4), 2 + 1 + 1)
        self.assert_price(leaf_of(2), 1 + 1 + 1)
        self.assert_price(leaf_of(8, "down"), 2 + 3 + 1)
        self.assert_price(leaf_of(8, "right"), 2 + 3 + 1)
        self.assert_price(leaf_of(8, "slope"), 2 + 5 + 1)
        self.assert_price(leaf_of(8, "motion"), 2 + 5 + 1 + 3)
        self.assert_price(motion_of(8, 1, -1, 2), 2 + 5 + 1 + 3 + 3 + 5)
        self.assert_price(motion_of(2, 2, 31, -31, 64), 1 + 5 + 5 + 3 + 11 + 11)
        for q, price in zip(QUANTA, (1, 3, 3, 5, 5, 5, 5)):
            self.assert_price(leaf_of(4, q=q), 2 + 1 + price)
        self.assert_price(leaf_of(2, levels=((0, 0), (0, 1))), 3 + 1 + 1 + 1 + 3)
        self.assert_price(leaf_of(2, levels=((-1, 2), (-2000, 2000))), 3 + 3 + 5 + 23 + 23)
        self.assert_price(leaf_of(8, levels=((-1,) + (0,) * 7,) + ((0,) * 8,) * 7), 4 + 3 + 63)
        self.assert_price(split_of(leaf_of(4)), 1 + 4 * 4)
        self.assert_price(split_of(leaf_of(2)), 1 + 4 * 3)
        self.assert_price(split_of(split_of(leaf_of(2))), 1 + 4 * 13)

    def test_drawn_trees(self):
        source = random.Random(24)
        for n in (8, 4, 2):
            for number in range(60):
                tree = drawn_tree(source, n)
                with self.subTest(n=n, number=number):
                    self.assert_price(tree, model_tree_price(tree, n))

    def test_bands(self):
        source = random.Random(25)
        self.assertEqual(price_of_band((leaf_of(8),) * 3), 12)
        for blocks in (1, 2, 3, 4):
            for number in range(15):
                trees = drawn_band(source, blocks)
                with self.subTest(blocks=blocks, number=number):
                    wanted = sum(model_tree_price(tree, 8) for tree in trees)
                    self.assertEqual(price_of_band(trees), wanted)
                    self.assertEqual(price_of_band(trees=trees), wanted)
                    self.assertIs(type(price_of_band(trees)), int)


class NoTrees(unittest.TestCase):
    def assert_none(self, function, value):
        before = copy.deepcopy(value)
        name = "trees" if function is price_of_band else "tree"
        for arguments, named in (((value,), {}), ((), {name: value})):
            with self.assertRaises(InvalidTree) as caught:
                function(*arguments, **named)
            self.assertIs(caught.exception.value, value)
        self.assertEqual(value, before)

    def test_what_is_no_tree(self):
        rows_of_trees = [(leaf_of(8),), (leaf_of(2),), [leaf_of(8)], (leaf_of(8),) * 2, (split_of(leaf_of(4)),)]
        for value in NO_TREES + rows_of_trees:
            for function in (leaves_of, price_of_tree):
                with self.subTest(function=function.__name__, value=value):
                    self.assert_none(function, value)

    def test_what_is_no_band_tree(self):
        for value in NO_BAND_TREES:
            with self.subTest(value=value):
                self.assert_none(price_of_band, value)


if __name__ == "__main__":
    unittest.main()

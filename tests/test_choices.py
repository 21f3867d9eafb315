import copy
import random
import unittest

from models import model_leaves, model_tree_price
from picturetide.choices import coded_band, price_holds, price_paper
from picturetide.leaves import band_shown
from picturetide.pictures import plain
from picturetide.trees import is_band_tree, price_of_band
from samples import NO_PICTURES, drawn_picture, empty_levels, is_made_of_integers, leaf_of, motion_of, nested, split_of
from stream_models import (
    model_areas, model_coded_band, model_exact_prices, model_is_exact, model_least, model_leaves_of_area, model_parts,
    model_price_holds, model_price_paper, model_ways,
)
from stream_samples import any_picture, moved_picture, soft_picture

EMPTY = (None, None, None)
CODED_NAMES = ("rows", "top", "slots", "kind", "bound", "window")
PAPER_NAMES = ("rows", "top", "slots", "kind", "window")


def drawn_question(source, blocks, bands=2):
    """(rows, top, slots, kind) of a band, with kept pictures that are like it."""
    picture = any_picture(source, 8 * bands, 8 * blocks)
    top = 8 * source.randrange(bands)
    kept = [moved_picture(source, picture) if source.randrange(3) else None for _ in range(3)]
    if source.randrange(3) == 0:
        kept[source.randrange(3)] = any_picture(source, 8 * bands, 8 * blocks)
    kind = "key" if source.randrange(5) == 0 else "other"
    return (picture[top:top + 8], top, tuple(kept), kind)


def nearly_alike(seed):
    """The rows of a band of a block and a kept picture that is nearly like it."""
    source = random.Random(seed)
    values = source.choice([(128, 129), (128, 130, 126), (100, 101)])
    rows = drawn_picture(source, 8, 8, values)
    spots = [list(row) for row in plain(8, 8, 128)]
    for _ in range(source.randrange(1, 12)):
        spots[source.randrange(4)][source.randrange(4)] = source.choice(values)
    if source.randrange(2):
        rows = tuple(tuple(row) for row in spots)
    kept = tuple(tuple(value if source.randrange(30) else source.choice(values) for value in row) for row in rows)
    return rows, kept


class CodedBand(unittest.TestCase):
    def assert_coded(self, question, wanted=None):
        """A band is coded just as point 21 tells; the question is (rows, top, slots, kind, bound, window)."""
        before = copy.deepcopy(question)
        rows, top, slots, _, bound, _ = question
        trees = coded_band(*question)
        self.assertEqual(trees, model_coded_band(*question) if wanted is None else wanted)
        self.assertEqual(coded_band(**dict(reversed(list(zip(CODED_NAMES, question))))), trees)
        self.assertTrue(is_band_tree(trees, len(rows[0]) // 8))
        told = band_shown(trees, top, slots)
        pairs = [pair for row, other in zip(rows, told) for pair in zip(row, other)]
        self.assertLessEqual(max(abs(a - b) for a, b in pairs), bound)
        self.assertEqual(question, before)
        return trees

    def test_plain_bands_written_out(self):
        for kind in ("key", "other"):
            for window in (0, 1):
                self.assert_coded((plain(8, 8, 128), 0, EMPTY, kind, 0, window), (leaf_of(8),))
                self.assert_coded((plain(8, 24, 128), 8, EMPTY, kind, 255, window), (leaf_of(8),) * 3)
                # By 32 the 10 that are missing are no level; a level of 16 would show 144.
                self.assert_coded((plain(8, 8, 138), 0, EMPTY, kind, 10, window), (leaf_of(8, q=32),))

    def test_of_equal_prices_the_first_motion(self):
        source = random.Random(82)
        rows, still = drawn_picture(source, 8, 8), soft_picture(source, 8, 8)
        for slots, slot in (((rows, rows, rows), 0), ((None, rows, rows), 1), ((None, None, rows), 2),
                            ((still, rows, rows), 1)):
            self.assert_coded((rows, 0, slots, "other", 0, 0), (motion_of(8, slot),))
            self.assert_coded((rows, 0, slots, "other", 0, 1), (motion_of(8, slot),))
        # Halfway between two rows the values are the same above and below, so also halfway between two columns.
        lines = [source.randrange(100) for _ in range(24)]
        upright = tuple(tuple(line + 64 * (y % 2) for line in lines) for y in range(24))
        lying = tuple(tuple(line + 64 * (x % 2) for x in range(24)) for line in lines)
        rows = tuple(tuple(line + 32 for line in lines) for _ in range(8))
        trees = self.assert_coded((rows, 8, (None, None, upright), "other", 0, 1))
        self.assertEqual(trees[0], motion_of(8, 2, -1, 0))
        noise = drawn_picture(source, 8, 8)
        rows = tuple(noise[y] + (lines[8 + y] + 32,) * 8 + noise[y] for y in range(8))
        self.assertEqual(coded_band(rows, 8, (lying, None, None), "other", 0, 1)[1], motion_of(8, 0, 0, -1))

    def test_of_equal_prices_the_first_leaf(self):
        # How often the first two of the least price differ in mode and in q alone; the others stand above.
        ties = [0] * 5
        for seed in range(12):
            source = random.Random(seed)
            rows = drawn_picture(source, 8, 8, source.choice([(128, 130), (128, 132, 124), (100, 200)]))
            rows = tuple(row[:4] + (source.choice(rows[0]),) * 4 for row in rows)
            kept = tuple(source.choice([rows[::-1], None]) for _ in range(3))
            trees = self.assert_coded((rows, 0, kept, "other", 0, 0))
            for at in self.ties_of(rows, kept, trees[0]):
                ties[at] += 1
        self.assertGreater(min(ties[0], ties[4]), 0, ties)

    def ties_of(self, rows, slots, tree):
        known = {(y, x): value for y, row in enumerate(rows) for x, value in enumerate(row)}
        found = []
        for y, x, n, leaf in model_leaves(tree, 0, 0, 8):
            told = model_leaves_of_area(rows, known, 0, slots, (y, x, n), model_ways(slots, "other", 0), 0)
            first, second = sorted(told)[:2]
            self.assertEqual(leaf, first[2])
            if first[0] == second[0]:
                found.append([a == b for a, b in zip(first[1], second[1])].index(False))
        return found

    def test_motion_in_another_picture_alone(self):
        rows = drawn_picture(random.Random(83), 8, 8)
        slots = (rows, rows, rows)
        self.assert_coded((rows, 0, slots, "other", 0, 0), (motion_of(8),))
        trees = self.assert_coded((rows, 0, slots, "key", 0, 1))
        self.assertNotIn("motion", repr(trees))

    def test_the_window(self):
        source = random.Random(84)
        kept = drawn_picture(source, 16, 8)
        rows = kept[3:11]
        # Moved by two halves: beyond the window.
        self.assertNotEqual(self.assert_coded((rows, 2, (kept, None, None), "other", 0, 0)), (motion_of(8),))
        for dy in (-1, 0, 1):
            for dx in (-1, 0, 1):
                half = band_shown((motion_of(8, 1, dy, dx),), 4, (None, kept, None))
                wanted = (motion_of(8, 1, dy, dx),)
                self.assert_coded((half, 4, (None, kept, None), "other", 0, 1), wanted)
                if (dy, dx) != (0, 0):
                    self.assertNotEqual(self.assert_coded((half, 4, (None, kept, None), "other", 0, 0)), wanted)

    def test_split_only_if_its_price_is_less(self):
        source = random.Random(85)
        kinds = {"leaf": 0, "split": 0}
        for _ in range(16):
            question = (*drawn_question(source, 1), source.choice([0, 0, 3, 20]), 0)
            tree = self.assert_coded(question)[0]
            kinds[tree[0]] += 1
        self.assertGreater(min(kinds.values()), 3)

    def test_a_split_of_the_same_price_is_not_taken(self):
        for seed, tied in ((119, (0, 0, 8)), (199, (0, 0, 8)), (212, (0, 0, 8)), (2, (0, 4, 4)), (61, (0, 4, 4)),
                           (120, (4, 0, 4)), (337, (0, 0, 4)), (578, (0, 0, 4)), (675, (0, 0, 4))):
            rows, kept = nearly_alike(seed)
            self.assert_coded((rows, 0, (kept, None, None), "other", 0, 0))
            prices = model_exact_prices(rows, 0, (kept, None, None), "other", 0)
            self.assertEqual(prices[tied], 1 + sum(model_least(prices, part) for part in model_parts(tied)))

    def test_no_place_is_clipped_or_too_far_off(self):
        source = random.Random(86)
        for bound in (0, 1, 2, 5, 17, 64, 255):
            for values in ((0, 255), (0, 1, 2, 253, 254, 255), range(256)):
                rows = drawn_picture(source, 8, 8, values)
                with self.subTest(bound=bound, values=values):
                    self.assert_coded((rows, 0, (drawn_picture(source, 8, 8, values), None, None), "other", bound, 0))

    def test_the_greatest_levels(self):
        # What is predicted is as far off as it can be everywhere, and neighbours never alike.
        rows = tuple(tuple(255 * ((y + x) % 2) for x in range(8)) for y in range(8))
        turned = tuple(row[::-1] for row in rows)
        slots = (turned, None, None)
        trees = self.assert_coded((rows, 0, slots, "other", 0, 0))
        self.assertTrue(is_band_tree(trees, 1))
        for n in (8, 4, 2):
            leaves = model_leaves_of_area(rows, {}, 0, slots, (0, 0, n), [("motion", 0, 0, 0)], 0)
            self.assertEqual(max(abs(level) for row in leaves[0][2][6] for level in row), 1020)

    def test_with_what_stands_ahead_as_it_is_shown(self):
        # The first block shows 128 in place of 131, which the second one must not lean on as if it were 131.
        self.assert_coded((plain(8, 16, 131), 0, EMPTY, "key", 3, 0), (leaf_of(8, q=8), leaf_of(8, q=8)))
        source = random.Random(87)
        for number in range(12):
            question = (*drawn_question(source, 2, 1), source.choice([4, 12, 40]), 0)
            with self.subTest(number=number):
                self.assert_coded(question)

    def test_drawn_bands(self):
        source = random.Random(88)
        for number in range(20):
            blocks = source.choice([1, 1, 2])
            question = (*drawn_question(source, blocks), source.choice([0, 0, 1, 7, 30, 255]), source.randrange(2))
            with self.subTest(number=number):
                self.assert_coded(question)

    def test_the_largest_bands(self):
        source = random.Random(89)
        rows = drawn_picture(source, 8, 32)
        for kept in ((None, None, None), (None, drawn_picture(source, 32, 32), None)):
            trees = coded_band(rows, 24, kept, "other", 0, 0)
            self.assertEqual(band_shown(trees, 24, kept), rows)
        rows = drawn_picture(source, 8, 16)
        kept = tuple(drawn_picture(source, 32, 16) for _ in range(3))
        for bound in (0, 50):
            trees = coded_band(rows, 16, kept, "other", bound, 1)
            self.assertTrue(is_band_tree(trees, 2))
        self.assert_coded((rows, 16, kept, "other", 0, 1))

    def test_equal_calls_give_equal_trees(self):
        source = random.Random(80)
        questions = [(*drawn_question(source, 1), bound, 1) for bound in (0, 4, 9)]
        first = [coded_band(*question) for question in questions]
        self.assertEqual([coded_band(*question) for question in questions[::-1]], first[::-1])
        self.assertTrue(all(trees[0][0] in ("leaf", "split") for trees in first))


def exact_tree(source, rows, known, top, slots, area, ways):
    """Any tree of an area that shows rows and clips nothing."""
    if area[2] > 2 and source.randrange(2):
        return ("split", tuple(exact_tree(source, rows, known, top, slots, part, ways) for part in model_parts(area)))
    return source.choice(model_leaves_of_area(rows, known, top, slots, area, ways, 0))[2]


class Papers(unittest.TestCase):
    def assert_holds(self, question, paper, wanted):
        before = copy.deepcopy((question, paper))
        self.assertIs(price_holds(*question, paper), wanted)
        named = dict(zip(PAPER_NAMES, question))
        self.assertIs(price_holds(paper=paper, **named), wanted)
        self.assertEqual((question, paper), before)

    def test_a_plain_band_written_out(self):
        paper = price_paper(plain(8, 8, 128), 0, EMPTY, "key", 0)
        # A leaf of 8 by 8 or 4 by 4 costs 2 + 1 + 1, one of 2 by 2 a bit less.
        self.assertEqual(paper, ((4,) + (4, 3, 3, 3, 3) * 4,))
        self.assertEqual(price_paper(plain(8, 24, 128), 8, EMPTY, "other", 1), paper * 3)

    def test_the_order_of_the_numbers(self):
        # One place alone needs levels: a number that is not 3 or 4 stands for an area with this place in it.
        rows = tuple(tuple(129 if (y, x) == (4, 3) else 128 for x in range(8)) for y in range(8))
        paper = price_paper(rows, 0, EMPTY, "key", 0)[0]
        areas = model_areas((0, 0, 8))
        dear = [areas[at] for at, number in enumerate(paper) if number > (3 if areas[at][2] == 2 else 4)]
        self.assertEqual([at for at in dear if at[2] > 2], [(0, 0, 8), (4, 0, 4)])
        self.assertIn((4, 2, 2), dear)

    def test_drawn_papers(self):
        source = random.Random(91)
        for number in range(20):
            question = (*drawn_question(source, source.choice([1, 1, 2])), source.randrange(2))
            before = copy.deepcopy(question)
            with self.subTest(number=number):
                paper = price_paper(*question)
                self.assertEqual(paper, model_price_paper(*question))
                self.assertEqual(price_paper(**dict(reversed(list(zip(PAPER_NAMES, question))))), paper)
                self.assertTrue(is_made_of_integers(paper))
                self.assertEqual(question, before)
                self.assert_holds(question, paper, True)

    def test_the_price_of_what_is_coded(self):
        source = random.Random(92)
        for number in range(25):
            rows, top, slots, kind = drawn_question(source, source.choice([1, 1, 2]))
            window = source.randrange(2)
            with self.subTest(number=number):
                paper = price_paper(rows, top, slots, kind, window)
                trees = coded_band(rows, top, slots, kind, 0, window)
                self.assertEqual(price_of_band(trees), sum(part[0] for part in paper))
                self.assertTrue(model_is_exact(rows, top, slots, kind, window, trees))

    def test_no_other_tree_costs_less(self):
        source = random.Random(93)
        for number in range(12):
            rows, top, slots, kind = drawn_question(source, 1)
            window = source.randrange(2)
            least = price_paper(rows, top, slots, kind, window)[0][0]
            known = {(y, x): value for y, row in enumerate(rows) for x, value in enumerate(row)}
            ways = model_ways(slots, kind, window)
            for _ in range(3):
                tree = exact_tree(source, rows, known, top, slots, (0, 0, 8), ways)
                with self.subTest(number=number, tree=tree):
                    self.assertTrue(model_is_exact(rows, top, slots, kind, window, (tree,)))
                    self.assertEqual(band_shown((tree,), top, slots), rows)
                    self.assertLessEqual(least, model_tree_price(tree, 8))

    def test_papers_with_another_number(self):
        source = random.Random(94)
        for number in range(2):
            question = (*drawn_question(source, 1 + number), 0)
            paper = price_paper(*question)
            prices = model_exact_prices(*question)
            for block, part in enumerate(paper):
                for at, told in enumerate(part):
                    for other in (told + 1, told - 1, 0):
                        changed = part[:at] + (other,) + part[at + 1:]
                        papers = paper[:block] + (changed,) + paper[block + 1:]
                        with self.subTest(number=number, block=block, at=at, other=other):
                            found = price_holds(*question, papers)
                            self.assertIs(found, model_price_holds(prices, len(paper), papers))
                            self.assertFalse(found and other > told)
            self.assert_holds(question, tuple((0,) * 21 for _ in paper), True)
            self.assert_holds(question, tuple((1,) * 21 for _ in paper), True)
            self.assert_holds(question, tuple((part[0] - 1, *part[1:]) for part in paper), True)
            self.assert_holds(question, tuple(tuple(told + 1 for told in part) for part in paper), False)

    def test_one_above_each_limit(self):
        # Where splits cost less than leaves, the numbers are held by the quarters' alone, elsewhere by the leaves'.
        source = random.Random(95)
        held = {"leaves": 0, "quarters": 0}
        for _ in range(8):
            question = (*drawn_question(source, 1), 0)
            paper = price_paper(*question)[0]
            prices = model_exact_prices(*question)
            for at, area in enumerate(model_areas((0, 0, 8))):
                raised = paper[:at] + (paper[at] + 1,) + paper[at + 1:]
                self.assertIs(price_holds(*question, (raised,)), False)
                held["leaves" if prices[area] == paper[at] else "quarters"] += 1
        self.assertGreater(min(held.values()), 10)

    def test_numbers_below_the_leaves_price_but_above_the_quarters(self):
        question = (drawn_picture(random.Random(96), 8, 8), 0, EMPTY, "key", 0)
        prices = model_exact_prices(*question)
        areas = model_areas((0, 0, 8))
        # With quarters that tell 0 an area can tell 1 at most, whatever its leaves cost.
        zeros = [0] * 21
        for at in (0, 1, 6, 11, 16):
            for number, wanted in ((1, True), (2, False)):
                paper = list(zeros)
                paper[at] = number
                self.assertGreater(prices[areas[at]], 2)
                self.assert_holds(question, (tuple(paper),), wanted)
        paper = list(zeros)
        paper[2:6] = [1, 2, 3, 4]
        paper[1] = 11
        self.assert_holds(question, (tuple(paper),), True)
        paper[1] = 12
        self.assert_holds(question, (tuple(paper),), False)
        paper[1] = 0
        paper[0] = 2
        self.assert_holds(question, (tuple(paper),), False)

    def test_what_has_no_form_of_a_paper(self):
        rows = plain(8, 16, 128)
        question = (rows, 0, EMPTY, "key", 0)
        paper = price_paper(*question)
        part = paper[0]
        values = NO_PICTURES + [
            (), [], None, 0, "paper", True, part, list(paper), [part, part], (part,), (part, part, part),
            (part, list(part)), (list(part), part), (part, None), (part, ()), (part, part[:-1]), (part, part + (0,)),
            (part[:20], part), ((), ()), ((0,) * 20, (0,) * 22), (part, "0" * 21), (part, (part,) * 21),
            (part, {}), nested(12, tuple), nested(12, list), ((0,) * 42,), (0,) * 42,
        ]
        for wrong in (True, False, None, -1, -10 ** 12, "0", "", (), (0,), [], [0]):
            for at in (0, 1, 2, 20):
                values.append((part, part[:at] + (wrong,) + part[at + 1:]))
                values.append((part[:at] + (wrong,) + part[at + 1:], part))
        for value in values:
            with self.subTest(value=value):
                self.assert_holds(question, value, False)

    def test_only_what_is_within_the_window_counts(self):
        kept = drawn_picture(random.Random(97), 16, 8)
        half = band_shown((motion_of(8, 2, 1, -1),), 8, (None, None, kept))
        slots = (None, None, kept)
        wide = price_paper(half, 8, slots, "other", 1)
        self.assertEqual(wide[0][0], model_tree_price(motion_of(8, 2, 1, -1), 8))
        for other in (price_paper(half, 8, slots, "other", 0), price_paper(half, 8, slots, "key", 1),
                      price_paper(half, 8, EMPTY, "other", 1)):
            self.assertGreater(other[0][0], wide[0][0])
            self.assert_holds((half, 8, slots, "other", 1), other, False)
            self.assert_holds((half, 8, slots, "other", 0), wide, True)

    def test_the_largest_papers(self):
        source = random.Random(98)
        for blocks, window in ((2, 0), (1, 1)):
            rows = drawn_picture(source, 8, 8 * blocks)
            slots = tuple(drawn_picture(source, 32, 8 * blocks) for _ in range(3))
            question = (rows, 24, slots, "other", window)
            paper = price_paper(*question)
            self.assertEqual(paper, model_price_paper(*question))
            self.assert_holds(question, paper, True)

    def test_trees_of_a_paper_have_21_areas(self):
        leaf = leaf_of(2)
        tree = split_of(split_of(leaf))
        self.assertEqual(len(model_areas((0, 0, 8))), 21)
        self.assertEqual([area[:3] for area in model_leaves(tree, 0, 0, 8)],
                         [area for area in model_areas((0, 0, 8)) if area[2] == 2])


if __name__ == "__main__":
    unittest.main()

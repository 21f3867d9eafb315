import copy
import random
import unittest

from models import model_tree_price
from picturetide.choices import coded_band, price_paper
from picturetide.claims import claim_holds, is_claim, seal_claim
from picturetide.edits import cut, joined
from picturetide.errors import InvalidClaim, Refused
from picturetide.leaves import band_shown
from picturetide.pictures import plain
from picturetide.reaching import reach
from picturetide.streams import encoded, shown
from picturetide.trees import is_band_tree, price_of_band
from samples import (
    FAR, NO_BAND_TREES, NO_PICTURES, drawn_picture, is_made_of_integers, leaf_of, motion_of, nested, picture_of, split_of,
    with_value,
)
from stream_models import model_is_exact, model_ways
from stream_samples import drawn_lost, drawn_stream, moved_picture, pairs_of
from test_choices import drawn_question, exact_tree

NO_NUMBERS = (-1, -FAR, True, False, None, "0", "", (), (0,), [], [0])
NO_PAPERS = [[], None, 0, False, True, "", "paper", (0,), ((),), [()], {}, ((0,) * 21,), nested(12, tuple)]
EMPTY = (None, None, None)
SOURCE = random.Random(161)
PICTURES = (picture_of(8, 8), picture_of(8, 8, 1))
PLAN = (("key", 0, 0), ("other", None, 0))
UNITS = encoded(PICTURES, PLAN, 0)
OTHER = encoded((PICTURES[0], with_value(PICTURES[1], 5, 2, 9)), PLAN, 0)
ROWS = drawn_picture(SOURCE, 8, 8, (100, 102, 128))
SLOTS = (None, moved_picture(SOURCE, ROWS), None)
TREES = coded_band(ROWS, 0, SLOTS, "other", 0, 1)
WITHIN = ("within", PICTURES, UNITS, (0, 0))
APART = ("apart", UNITS, OTHER, 1, 5, 2)
ALIKE = ("alike", UNITS, UNITS)
SAFE = ("safe", UNITS, ((1, 0),), 0, 3, 4)
CHEAPEST = ("cheapest", ROWS, 0, SLOTS, "other", 1, TREES)
CLAIMS = [WITHIN, APART, ALIKE, SAFE, CHEAPEST]
NO_STREAMS = [(), [], None, 0, "units", UNITS[0], UNITS[1:], UNITS[::-1], UNITS + UNITS, list(UNITS), (UNITS,),
              (UNITS[0], list(UNITS[1])), nested(12, tuple)]


def with_part(claim, at, value):
    return claim[:at] + (value,) + claim[at + 1:]


class Claims(unittest.TestCase):
    def paper_of(self, claim):
        return price_paper(*claim[1:6]) if claim[0] == "cheapest" else ()

    def assert_form(self, value, wanted):
        before = copy.deepcopy(value)
        with self.subTest(value=value):
            self.assertIs(is_claim(value), wanted)
            self.assertIs(is_claim(value=value), wanted)
        self.assertEqual(value, before)

    def assert_holds(self, claim, paper, wanted):
        before = copy.deepcopy((claim, paper))
        self.assertIs(claim_holds(claim, paper), wanted)
        self.assertIs(claim_holds(paper=paper, claim=claim), wanted)
        self.assertEqual((claim, paper), before)

    def assert_true(self, claim):
        self.assert_form(claim, True)
        paper = self.paper_of(claim)
        before = copy.deepcopy(claim)
        with self.subTest(claim=claim):
            found = seal_claim(claim)
            self.assertEqual(found, paper)
            self.assertTrue(is_made_of_integers(found))
            self.assertEqual(seal_claim(claim=claim), paper)
            self.assert_holds(claim, paper, True)
        self.assertEqual(claim, before)

    def assert_refused(self, error, claim):
        before = copy.deepcopy(claim)
        for arguments, named in (((claim,), {}), ((), {"claim": claim})):
            with self.subTest(claim=claim), self.assertRaises(error) as caught:
                seal_claim(*arguments, **named)
            self.assertIs(caught.exception.claim if error is Refused else caught.exception.value, claim)
        self.assertEqual(claim, before)

    def assert_untrue(self, claim):
        self.assert_form(claim, True)
        self.assert_refused(Refused, claim)
        for paper in {(), self.paper_of(claim)} | {None}:
            with self.subTest(claim=claim, paper=paper):
                self.assertIs(claim_holds(claim, paper), False)

    def assert_no_claim(self, value):
        self.assert_form(value, False)
        self.assert_refused(InvalidClaim, value)
        for paper in ((), None, [], ((0,) * 21,)):
            self.assertIs(claim_holds(value, paper), False)


class Forms(Claims):
    def test_each_kind(self):
        for claim in CLAIMS:
            self.assert_true(claim)

    def test_any_value(self):
        words = ("within", "apart", "alike", "safe", "cheapest")
        values = NO_PICTURES + [(word,) for word in words] + [(word, (), (), (), (), (), ()) for word in words]
        values += list(words) + [("", UNITS, UNITS), (None,), (["alike"], UNITS, UNITS), (("alike",), UNITS, UNITS),
                                 ("Alike", UNITS, UNITS), (0, UNITS, UNITS), ({}, 1), (UNITS, UNITS, "alike"), UNITS,
                                 ("cheap", *CHEAPEST[1:]), ("alikealike", UNITS, UNITS), (True, UNITS, UNITS)]
        for value in values:
            self.assert_no_claim(value)

    def test_more_or_fewer_parts_or_a_list(self):
        for claim in CLAIMS:
            self.assert_no_claim(claim + ((),))
            self.assert_no_claim(claim + (0,))
            self.assert_no_claim(claim[:-1])
            self.assert_no_claim(claim[:1])
            self.assert_no_claim(claim[1:])
            self.assert_no_claim(list(claim))
            self.assert_no_claim((claim,))
            for other in CLAIMS:
                if other[0] != claim[0] and (claim[0], other[0]) != ("safe", "apart"):
                    self.assert_no_claim((other[0],) + claim[1:])

    def test_parts_that_are_no_streams(self):
        for claim, at in ((WITHIN, 2), (APART, 1), (APART, 2), (ALIKE, 1), (ALIKE, 2), (SAFE, 1)):
            for value in NO_STREAMS:
                self.assert_no_claim(with_part(claim, at, value))

    def test_parts_that_are_no_numbers(self):
        for claim, at in ((APART, 3), (APART, 4), (APART, 5), (SAFE, 3), (SAFE, 4), (SAFE, 5), (CHEAPEST, 2)):
            for value in NO_NUMBERS:
                self.assert_no_claim(with_part(claim, at, value))
            for value in (0, 7, FAR):
                self.assert_form(with_part(claim, at, value), True)

    def test_within(self):
        pictures = [(), [], None, 0, PICTURES[0], list(PICTURES), (PICTURES,), PICTURES[:1] + (picture_of(8, 16),),
                    (list(PICTURES[0]), PICTURES[1])]
        for value in pictures + [(PICTURES[0], value) for value in NO_PICTURES] + [(value,) for value in NO_PICTURES]:
            for bounds in ((0, 0), (0,), ()):
                self.assert_no_claim(("within", value, UNITS, bounds))
        wrong = [(), (0,), (0, 0, 0), [0, 0], None, 0, "00"] + [(0, value) for value in NO_NUMBERS]
        for bounds in wrong + [(value, 0) for value in NO_NUMBERS]:
            self.assert_no_claim(("within", PICTURES, UNITS, bounds))
        for bounds in ((0, 255), (256, 0), (FAR, FAR)):
            self.assert_true(("within", PICTURES, UNITS, bounds))

    def test_safe(self):
        pairs = [(2, 0), (0, 1), (-1, 0), (0, -1), (True, 0), (0, False), (0,), (0, 0, 0), [0, 0], None, 0, "00", (),
                 ("0", 0), (FAR, 0), ((0, 0),)]
        for lost in [None, 0, "", [], [(0, 0)], [(1, 0)], (0, 0), ([0, 0],)] + [(pair,) for pair in pairs]:
            self.assert_no_claim(with_part(SAFE, 2, lost))
        for pair in pairs:
            self.assert_no_claim(with_part(SAFE, 2, ((1, 0), pair)))
        for lost in ((), ((0, 0),), ((0, 0), (0, 0)), ((1, 0), (0, 0), (1, 0))):
            self.assert_form(with_part(SAFE, 2, lost), True)

    def test_cheapest(self):
        wide = drawn_picture(SOURCE, 8, 16)
        rows = [(), [], None, 0, "rows", list(ROWS), ROWS[:7], ROWS + ROWS[:1], ROWS * 2, tuple(row[:7] for row in ROWS),
                tuple(row[:4] for row in ROWS), wide[:7] + ROWS[:1], ROWS[:7] + wide[:1], tuple(row * 5 for row in ROWS),
                ((),) * 8, (None,) * 8, (ROWS,) * 8, ROWS[:7] + (list(ROWS[7]),), ([*ROWS[0]],) + ROWS[1:], wide,
                with_value(ROWS, 7, 7, 256), with_value(ROWS, 0, 0, -1), with_value(ROWS, 3, 3, True)]
        rows += [(None,) + ROWS[1:], (0,) + ROWS[1:], ROWS[:1] + (None,) * 7, ROWS[:1] + (0,) * 7]
        for value in rows:
            self.assert_no_claim(with_part(CHEAPEST, 1, value))
        for columns in (0, 1, 4, 7, 9, 12, 15, 20, 28, 33, 40):
            for blocks in (columns // 8, 1, (columns + 7) // 8):
                self.assert_no_claim(("cheapest", ((128,) * columns,) * 8, 0, EMPTY, "key", 0, (leaf_of(8),) * blocks))
        slots = [(), [], None, 0, "slots", list(SLOTS), SLOTS[:2], SLOTS + (None,), (None, None, 0), (ROWS, ROWS, "0"),
                 ROWS, (None, None, list(ROWS)), (wide, None, None), (None, wide, None), (None, None, wide),
                 (None, None, False), (None, (), None), (ROWS, None, ROWS[:7]), ("none",) * 3]
        for value in slots:
            self.assert_no_claim(with_part(CHEAPEST, 3, value))
        for value in ("Key", "", None, 0, 1, True, (), ["key"], ("key",), "motion", "otherkey"):
            self.assert_no_claim(with_part(CHEAPEST, 4, value))
        for value in NO_NUMBERS + (2, 3, FAR):
            self.assert_no_claim(with_part(CHEAPEST, 5, value))
        for value in NO_BAND_TREES + [(), TREES * 2, TREES[0], list(TREES)]:
            self.assert_no_claim(with_part(CHEAPEST, 6, value))

    def test_cheapest_of_each_size(self):
        for blocks in (1, 2, 3, 4):
            rows = plain(8, 8 * blocks, 128)
            for slots in (EMPTY, (plain(32, 8 * blocks, 1), None, plain(8, 8 * blocks, 9))):
                for top in (0, 3, 24, FAR):
                    for kind in ("key", "other"):
                        claim = ("cheapest", rows, top, slots, kind, 0, (leaf_of(8),) * blocks)
                        self.assert_form(claim, True)
                        if blocks < 3:
                            self.assert_true(claim)
                        self.assert_form(with_part(claim, 6, (leaf_of(8),) * (blocks % 4 + 1)), False)


class Truths(Claims):
    def test_papers_that_are_not_empty(self):
        for claim in (WITHIN, APART, ALIKE, SAFE):
            for paper in NO_PAPERS:
                with self.subTest(claim=claim[0], paper=paper):
                    self.assert_holds(claim, paper, False)

    def test_within(self):
        source = random.Random(162)
        for size in ((1, 1, 3), (2, 1, 2), (1, 2, 2), (2, 2, 1)):
            units = drawn_stream(source, size)
            told = shown(units)
            pictures = tuple(drawn_picture(source, 8 * size[0], 8 * size[1]) for _ in range(size[2]))
            errors = tuple(max(abs(a - b) for row, line in zip(picture, other) for a, b in zip(row, line))
                           for picture, other in zip(pictures, told))
            self.assert_true(("within", pictures, units, errors))
            self.assert_true(("within", pictures, units, tuple(error + 1 for error in errors)))
            self.assert_true(("within", told, units, (0,) * size[2]))
            for at in range(size[2]):
                self.assert_untrue(("within", pictures, units, with_part(errors, at, errors[at] - 1)))

    def test_within_of_unlike_sizes_or_numbers(self):
        for pictures in (PICTURES[:1], PICTURES + PICTURES[:1], (picture_of(16, 8),) * 2, (picture_of(8, 16),) * 2,
                         (picture_of(16, 16),), (plain(8, 8, 0),) * 3):
            self.assert_untrue(("within", pictures, UNITS, (255,) * len(pictures)))

    def test_apart_and_alike(self):
        self.assert_untrue(("alike", UNITS, OTHER))
        self.assert_untrue(("alike", UNITS, cut(UNITS, 0, 1)))
        self.assert_true(("alike", cut(UNITS, 0, 1), cut(OTHER, 0, 1)))
        for at, value in ((3, 0), (3, 2), (4, 4), (4, 6), (5, 1), (5, 3), (5, FAR)):
            self.assert_untrue(with_part(APART, at, value))
        self.assert_true(("apart", OTHER, UNITS, 1, 5, 2))
        for place in ((0, 0, 0), (1, 0, 0), (2, 0, 0), (1, 5, 2)):
            self.assert_untrue(("apart", UNITS, UNITS, *place))
        longer = joined(UNITS, UNITS)
        self.assert_true(("apart", UNITS, longer, 2, 0, 0))
        self.assert_true(("apart", longer, UNITS, 2, 0, 0))
        self.assert_untrue(("apart", longer, UNITS, 3, 0, 0))
        wide = drawn_stream(random.Random(163), (1, 2, 2))
        self.assert_true(("apart", UNITS, wide, 0, 0, 0))
        self.assert_untrue(("apart", UNITS, wide, 2, 0, 0))
        self.assert_untrue(("alike", UNITS, wide))

    def test_safe(self):
        source = random.Random(164)
        counts = {True: 0, False: 0}
        for size in ((1, 1, 4), (2, 1, 3), (2, 2, 2)):
            units = drawn_stream(source, size)
            for _ in range(2):
                lost = tuple(drawn_lost(source, units))
                reached = reach(units, lost)
                for _ in range(5):
                    number = source.randrange(size[2])
                    place = (source.randrange(8 * size[0]), source.randrange(8 * size[1]))
                    safe = place not in reached[number]
                    counts[safe] += 1
                    check = self.assert_true if safe else self.assert_untrue
                    check(("safe", units, lost, number, *place))
        self.assertGreater(min(counts.values()), 5)
        self.assert_untrue(("safe", UNITS, tuple(pairs_of(UNITS)), 0, 0, 0))

    def test_safe_with_a_place_that_is_not_there(self):
        units = drawn_stream(random.Random(165), (2, 1, 3))
        for lost in ((), ((0, 0),)):
            self.assert_true(("safe", units, lost, 2, 15, 7) if not lost else ("safe", units, (), 0, 0, 0))
            for place in ((3, 0, 0), (0, 16, 0), (0, 0, 8), (FAR, 0, 0), (0, FAR, 0), (0, 0, FAR), (2, 15, 8),
                          (0, 7, 15), (2, 16, 7), (3, 15, 7)):
                self.assert_untrue(("safe", units, lost, *place))

    def test_cheapest(self):
        source = random.Random(166)
        for number in range(10):
            blocks, window = source.choice([(1, 0), (1, 1), (2, 0)])
            rows, top, slots, kind = drawn_question(source, blocks)
            trees = coded_band(rows, top, slots, kind, 0, window)
            claim = ("cheapest", rows, top, slots, kind, window, trees)
            with self.subTest(number=number):
                self.assert_true(claim)
                ways = model_ways(slots, kind, window)
                known = {(y, x): value for y, row in enumerate(rows) for x, value in enumerate(row)}
                other = exact_tree(source, rows, known, top, slots, (0, 0, 8), ways)
                others = (other,) + trees[1:]
                self.assertTrue(model_is_exact(rows, top, slots, kind, window, others))
                if price_of_band(others) == price_of_band(trees):
                    self.assert_true(with_part(claim, 6, others))
                else:
                    self.assert_untrue(with_part(claim, 6, others))

    def test_cheapest_of_several(self):
        # Both slots hold the rows, and to tell one costs as much as to tell the other.
        rows = drawn_picture(random.Random(167), 8, 8)
        claim = ("cheapest", rows, 0, (None, rows, rows), "other", 0, (motion_of(8, 1),))
        self.assert_true(claim)
        self.assert_true(with_part(claim, 6, (motion_of(8, 2),)))
        self.assert_untrue(with_part(claim, 3, (rows, rows, rows)))
        self.assert_untrue(with_part(claim, 6, (motion_of(8, 1, q=2),)))

    def test_trees_that_show_something_else(self):
        rows = plain(8, 8, 128)
        one = leaf_of(8, levels=((1,) + (0,) * 7,) + ((0,) * 8,) * 7)
        claim = ("cheapest", rows, 0, EMPTY, "key", 0, (leaf_of(8),))
        self.assert_true(claim)
        self.assert_untrue(with_part(claim, 6, (one,)))
        # Of the same price as the cheapest ones, but of other rows.
        self.assert_untrue(with_part(claim, 1, with_value(rows, 7, 7, 129)))
        self.assert_untrue(with_part(claim, 1, with_value(rows, 0, 0, 127)))
        for number in range(3):
            rows = drawn_picture(random.Random(number), 8, 8, (128, 140, 120))
            trees = coded_band(rows, 0, EMPTY, "key", 0, 0)
            turned = tuple(self.turned(tree) for tree in trees)
            self.assertEqual(price_of_band(turned), price_of_band(trees))
            self.assertEqual(is_band_tree(turned, 1), True)
            self.assert_true(("cheapest", rows, 0, EMPTY, "key", 0, trees))
            self.assert_untrue(("cheapest", rows, 0, EMPTY, "key", 0, turned))

    def turned(self, tree):
        """The tree with all levels of the other sign, which cost the same."""
        if tree[0] == "split":
            return ("split", tuple(self.turned(part) for part in tree[1]))
        return tree[:6] + (tuple(tuple(-level for level in row) for row in tree[6]),)

    def test_trees_that_clip(self):
        # 255 is told by 127 levels, and by more of them, too, but these clip.
        rows = plain(8, 8, 255)
        def trees_of(level):
            return (leaf_of(8, q=64, levels=((level,) + (0,) * 7,) + ((0,) * 8,) * 7),)
        self.assertEqual(band_shown(trees_of(2), 0, EMPTY), rows)
        claim = ("cheapest", rows, 0, EMPTY, "key", 0, coded_band(rows, 0, EMPTY, "key", 0, 0))
        self.assert_true(claim)
        self.assert_untrue(with_part(claim, 6, trees_of(2)))
        # They would be cheaper than those that clip nothing.
        dark = plain(8, 8, 0)
        clipping = (split_of(*[leaf_of(4, q=64, levels=((-3, 0, 0, 0),) + ((0,) * 4,) * 3)] + [leaf_of(4)] * 3),)
        self.assertEqual(band_shown(clipping, 0, EMPTY), dark)
        cheapest = coded_band(dark, 0, EMPTY, "key", 0, 0)
        self.assert_untrue(("cheapest", dark, 0, EMPTY, "key", 0, clipping))
        self.assert_true(("cheapest", dark, 0, EMPTY, "key", 0, cheapest))

    def test_trees_beyond_the_window(self):
        kept = drawn_picture(random.Random(168), 16, 8)
        for dy, dx, window in ((0, 1, 0), (1, 0, 0), (-1, -1, 0), (2, 0, 1), (0, -2, 1), (31, 31, 1)):
            trees = (motion_of(8, 0, dy, dx),)
            rows = band_shown(trees, 4, (kept, None, None))
            claim = ("cheapest", rows, 4, (kept, None, None), "other", window, trees)
            self.assert_untrue(claim)
            if window == 0:
                self.assert_true(with_part(claim, 5, 1))
                self.assert_untrue(with_part(with_part(claim, 5, 1), 4, "key"))

    def test_trees_beyond_the_window_of_the_same_price(self):
        source = random.Random(160)
        noise = drawn_picture(source, 8, 8)
        split = split_of(leaf_of(4, "right"), leaf_of(4, "down"), leaf_of(4, "right"), leaf_of(4, "flat"))
        first = coded_band(noise, 0, EMPTY, "key", 0, 0)
        rows = band_shown(first + (split,), 0, EMPTY)
        slots = (None, drawn_picture(source, 8, 16) + rows, None)
        beyond = first + (motion_of(8, 1, 16),)
        self.assertEqual(band_shown(beyond, 0, slots), rows)
        self.assertEqual(price_of_band(beyond), price_of_band(first + (split,)))
        for kind, window in (("key", 0), ("key", 1), ("other", 0), ("other", 1)):
            claim = ("cheapest", rows, 0, slots, kind, window, first + (split,))
            self.assert_true(claim)
            self.assert_untrue(with_part(claim, 6, beyond))

    def test_trees_from_an_empty_slot_or_in_a_key_picture(self):
        grey = plain(8, 8, 128)
        self.assert_untrue(("cheapest", grey, 0, EMPTY, "other", 0, (motion_of(8),)))
        rows = drawn_picture(random.Random(169), 8, 8)
        claim = ("cheapest", rows, 0, (rows, None, None), "other", 0, (motion_of(8),))
        self.assert_true(claim)
        self.assert_untrue(with_part(claim, 4, "key"))
        self.assert_untrue(with_part(claim, 3, (None, rows, None)))

    def test_papers_of_cheapest(self):
        paper = self.paper_of(CHEAPEST)[0]
        self.assert_holds(CHEAPEST, (paper,), True)
        wrong = NO_PAPERS + [(), paper, [paper], (list(paper),), (paper, paper), (paper[:20],), (paper + (0,),)]
        wrong += [((paper[0] + 1,) + paper[1:],), ((paper[0] - 1,) + paper[1:],), ((0,) * 21,)]
        wrong += [(paper[:at] + (paper[at] + 1,) + paper[at + 1:],) for at in range(21)]
        wrong += [(paper[:at] + (value,) + paper[at + 1:],) for at in (0, 1, 20) for value in (True, None, -1, "0")]
        for other in wrong:
            self.assert_holds(CHEAPEST, other, False)
        # Lesser numbers serve as long as the blocks' stand.
        rows = plain(8, 8, 128)
        claim = ("cheapest", rows, 0, EMPTY, "key", 0, (leaf_of(8),))
        for other in ((4, *(4, 3, 3, 3, 3) * 4), (4, *(3, 3, 3, 3, 3) * 4), (4, *(1, 0, 0, 0, 0) * 4),
                      (4, 1, 0, 0, 0, 0, 2, 1, 0, 0, 0) + (0,) * 10):
            self.assert_holds(claim, (other,), True)
        for other in ((3,) + (0,) * 20, (4,) + (0,) * 20, (4, 3) + (0,) * 19, (4, 1, 0, 0, 0, 0, 1) + (0,) * 14):
            self.assert_holds(claim, (other,), False)

    def test_the_paper_of_two_blocks(self):
        rows = plain(8, 16, 128)
        claim = ("cheapest", rows, 0, EMPTY, "key", 0, (leaf_of(8), leaf_of(8)))
        self.assert_true(claim)
        part = (4, *(4, 3, 3, 3, 3) * 4)
        self.assert_holds(claim, (part, part), True)
        # The sum alone is not enough: the blocks' numbers must hold, too.
        self.assert_holds(claim, ((3,) + part[1:], (5,) + part[1:]), False)
        self.assert_holds(claim, ((3,) + part[1:], part), False)

    def test_a_claim_that_holds_is_true(self):
        self.assertEqual(sum(model_tree_price(tree, 8) for tree in TREES), self.paper_of(CHEAPEST)[0][0])
        for claim in CLAIMS:
            self.assertEqual(seal_claim(claim), seal_claim(copy.deepcopy(claim)))


if __name__ == "__main__":
    unittest.main()

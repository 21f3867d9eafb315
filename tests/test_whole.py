"""The main promise of the overview, and the bold sentences, over the whole program on drawn inputs."""

import copy
import random
import unittest

from picturetide.choices import price_holds, price_paper
from picturetide.claims import claim_holds, seal_claim
from picturetide.edits import cut, first_apart, greatest_errors, joined, keys_of, replaced, shown_from
from picturetide.errors import NoKey
from picturetide.fitting import fitted, length_of
from picturetide.reaching import ends_at, reach, reach_counts, worst_unit
from picturetide.streams import encoded, is_stream, kinds_of, shown, units_of
from picturetide.trees import price_of_band
from picturetide.units import read_unit
from repairs import RepairTest
from stream_samples import broken, drawn_lost, mixed, pairs_of, rest_of
from test_encoded import drawn_plan, drawn_row

# (rows, columns, many, window) of what encoded is asked for.
QUESTIONS = [
    (8, 8, 1, 1), (8, 8, 2, 1), (8, 16, 1, 1), (16, 8, 1, 1), (8, 8, 2, 0), (8, 8, 3, 0), (8, 8, 4, 0), (16, 8, 2, 0),
    (8, 16, 2, 0), (16, 16, 1, 0), (32, 8, 1, 0), (8, 32, 1, 0),
]


def drawn_question(source, question, bounds=(0, 0, 2, 9, 40, 255)):
    """Pictures and a plan; at most one slot is told where there are more than 2 blocks."""
    rows, columns, many, window = question
    slots = (None, 0, 1, 2) if rows * columns * many <= 128 else (None, source.randrange(3))
    return drawn_row(source, rows, columns, many), drawn_plan(source, many, bounds, slots), window


class Coding(unittest.TestCase):
    def test_bound_0_shows_the_pictures_themselves(self):
        source = random.Random(181)
        for question in QUESTIONS * 3:
            pictures, plan, window = drawn_question(source, question, (0,))
            before = copy.deepcopy((pictures, plan))
            units = encoded(pictures, plan, window)
            with self.subTest(question=question, plan=plan):
                self.assertEqual(shown(units), pictures)
                self.assertEqual(greatest_errors(units, pictures), (0,) * len(pictures))
                self.assertEqual(kinds_of(units), tuple(part[:2] for part in plan))
                self.assertEqual([shown_from(units, number) for number in range(len(pictures))], list(pictures))
                self.assertEqual(encoded(pictures, plan, window), units)
                self.assertEqual(encoded(list(pictures), list(plan), window), units)
                self.assertEqual(seal_claim(("within", pictures, units, (0,) * len(pictures))), ())
                self.assertEqual((pictures, plan), before)

    def test_each_kind_and_slot(self):
        source = random.Random(182)
        pictures = drawn_row(source, 8, 8, 3)
        for kinds in (("key", "key"), ("key", "other"), ("other", "key"), ("other", "other")):
            for first in (None, 0, 1, 2):
                for second in (None, first):
                    plan = (("key", first, 0), (kinds[0], second, 0), (kinds[1], None, 0))
                    units = encoded(pictures, plan, 0)
                    self.assertEqual(shown(units), pictures)
                    self.assertEqual(kinds_of(units), tuple(part[:2] for part in plan))

    def test_bounds(self):
        source = random.Random(183)
        for question in QUESTIONS * 2:
            pictures, plan, window = drawn_question(source, question)
            units = encoded(pictures, plan, window)
            bounds = tuple(part[2] for part in plan)
            with self.subTest(question=question, plan=plan):
                errors = greatest_errors(units, pictures)
                self.assertTrue(all(error <= bound for error, bound in zip(errors, bounds)))
                self.assertTrue(claim_holds(("within", pictures, units, bounds), ()))
                self.assertTrue(claim_holds(("within", pictures, units, errors), ()))

    def test_least_prices(self):
        # With bound 0 each unit's trees are the cheapest, which a paper tells, from what is shown ahead.
        source = random.Random(184)
        for question in [(8, 8, 2, 1), (8, 16, 1, 1), (8, 8, 2, 0), (16, 8, 1, 0), (8, 16, 1, 0)] * 2:
            pictures, plan, window = drawn_question(source, question, (0,))
            slots = [None, None, None]
            told = iter(read_unit(unit) for unit in encoded(pictures, plan, window))
            for picture, (kind, keep, _) in zip(pictures, plan):
                slots = [None, None, None] if kind == "key" else slots
                for top in range(0, len(picture), 8):
                    asked = (picture[top:top + 8], top, tuple(slots), kind, window)
                    trees = next(told)[7]
                    paper = price_paper(*asked)
                    self.assertTrue(price_holds(*asked, paper))
                    self.assertEqual(price_of_band(trees), sum(part[0] for part in paper))
                    self.assertEqual(seal_claim(("cheapest", *asked, trees)), paper)
                if keep is not None:
                    slots[keep] = picture

    def test_fitted(self):
        source = random.Random(185)
        for _ in range(6):
            picture = drawn_row(source, 8, 8, 1)
            plan = (("key", 1, source.choice([0, 5, 200])),)
            units, bounds = fitted(picture, plan, 1, source.choice([60, 90, 200]))
            self.assertLessEqual(greatest_errors(units, picture)[0], bounds[0])
            self.assertEqual(units, encoded(picture, (("key", 1, bounds[0]),), 1))
            self.assertEqual(length_of(units, 0), len(units[0]))


def encoded_stream(source, question):
    return encoded(*drawn_question(source, question))


class Losses(RepairTest):
    def test_what_is_left_doubled_and_mixed_up(self):
        source = random.Random(186)
        for question in QUESTIONS * 2:
            units = encoded_stream(source, question)
            for _ in range(3):
                lost = drawn_lost(source, units)
                left = rest_of(units, lost)
                damaged = [broken(source, unit) for unit, pair in zip(units, pairs_of(units)) if pair in lost]
                values = mixed(source, left, damaged)
                with self.subTest(question=question, lost=lost):
                    self.assert_repaired(units, lost, values)
                    self.assertEqual(shown(values), shown(left))
                    self.assertEqual(units_of(values), left)

    def test_the_whole_stream_mixed_up(self):
        source = random.Random(187)
        for question in QUESTIONS:
            units = encoded_stream(source, question)
            values = mixed(source, units)
            self.assertEqual(shown(values), shown(units))
            self.assertEqual(units_of(values), units)

    def test_worst_units_and_ends(self):
        source = random.Random(188)
        for question in [(8, 8, 4, 0), (8, 8, 3, 0), (16, 8, 2, 0), (8, 16, 2, 0)]:
            units = encoded_stream(source, question)
            pairs = pairs_of(units)
            counts = {pair: sum(reach_counts(units, [pair])) for pair in pairs}
            self.assertEqual(worst_unit(units), max(pairs, key=lambda pair: counts[pair]))
            for number in range(question[2]):
                end = ends_at(units, number)
                lost = [pair for pair in pairs if pair[0] <= number]
                self.assertEqual(set(reach_counts(units, lost)[end:]) | {0}, {0})
                left = rest_of(units, lost)
                if left:
                    self.assertEqual(shown(left)[end:], shown(units)[end:])

    def test_claims_of_safe_places(self):
        source = random.Random(189)
        for question in [(8, 8, 3, 0), (16, 8, 2, 0)]:
            units = encoded_stream(source, question)
            lost = tuple(drawn_lost(source, units))
            left = shown(rest_of(units, lost))
            for number, picture in enumerate(left):
                for y in range(0, len(picture), 3):
                    for x in range(0, 8, 3):
                        if claim_holds(("safe", units, lost, number, y, x), ()):
                            self.assertEqual(picture[y][x], shown(units)[number][y][x])


class Editing(RepairTest):
    def test_cuts_joints_and_seeks(self):
        source = random.Random(190)
        for question in [(8, 8, 4, 0), (16, 8, 2, 0), (8, 16, 2, 0), (8, 8, 3, 0)] * 3:
            units, other = encoded_stream(source, question), encoded_stream(source, question)
            pictures, others, many = shown(units), shown(other), question[2]
            self.assertEqual(shown(joined(units, other)), pictures + others)
            for number in range(many):
                self.assertEqual(shown_from(units, number), pictures[number])
            for start in range(many):
                for end in range(start + 1, many + 1):
                    if start not in keys_of(units):
                        with self.assertRaises(NoKey):
                            cut(units, start, end)
                    else:
                        part = cut(units, start, end)
                        self.assertTrue(is_stream(part))
                        self.assertEqual(shown(part), pictures[start:end])
                        if end == many or end in keys_of(units):
                            found = replaced(units, start, end, other)
                            self.assertEqual(shown(found), pictures[:start] + others + pictures[end:])

    def test_parts_put_together_again(self):
        source = random.Random(191)
        for _ in range(10):
            pictures = drawn_row(source, 8, 8, 4)
            plan = (("key", 0, 0), ("other", None, 0), ("key", 0, 0), ("other", None, 5))
            units = encoded(pictures, plan, 0)
            first, second = cut(units, 0, 2), cut(units, 2, 4)
            self.assertEqual(joined(first, second), units)
            self.assertEqual(replaced(units, 0, 2, first), units)
            self.assertEqual(replaced(units, 2, 4, second), units)
            self.assertEqual(first_apart(joined(first, second), units), None)
            self.assertEqual(shown(joined(second, first)), shown(second) + shown(first))
            # A loss in a part reaches what it reaches in the whole.
            for number in range(2):
                self.assertEqual(reach(units, [(number, 0)]), reach(first, [(number, 0)]) + ((), ()))
                self.assertEqual(reach(units, [(number + 2, 0)]), ((), ()) + reach(second, [(number, 0)]))

    def test_losses_of_edited_streams(self):
        source = random.Random(192)
        for question in [(8, 8, 4, 0), (16, 8, 2, 0), (8, 16, 2, 0)]:
            units, other = encoded_stream(source, question), encoded_stream(source, question)
            for edited in (joined(units, other), cut(joined(units, other), question[2], 2 * question[2]),
                           replaced(units, 0, question[2], other)):
                lost = drawn_lost(source, edited)
                self.assert_repaired(edited, lost, mixed(source, rest_of(edited, lost)))
                # Units of the uncut stream tell another number of pictures: behind others they are passed over.
                if rest_of(edited, lost) and edited[0][:5] != units[0][:5]:
                    values = list(rest_of(edited, lost)) + list(units)
                    self.assert_repaired(edited, lost, values)


if __name__ == "__main__":
    unittest.main()

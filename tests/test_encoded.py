import copy
import random
import unittest

from models import model_band_shown
from picturetide.errors import InvalidPicture, InvalidPlan
from picturetide.pictures import plain
from picturetide.streams import encoded, is_stream, kinds_of, shown
from picturetide.units import read_unit
from samples import FAR, GOOD, NO_PICTURES, drawn_picture, is_made_of_integers, nested, picture_of
from stream_models import model_coded_band, model_unit
from stream_samples import any_picture, moved_picture

KINDS = ("key", "other")
KEEPS = (None, 0, 1, 2)
PLAIN_PLAN = (("key", None, 0),)


def model_encoded(pictures, plan, window):
    """Points 20 and 21: each band coded with the slots as they are shown ahead of its picture."""
    bands, blocks, many = len(pictures[0]) // 8, len(pictures[0][0]) // 8, len(pictures)
    slots = [None, None, None]
    units = []
    for number in range(many):
        kind, keep, bound = plan[number]
        if kind == "key":
            slots = [None, None, None]
        told = ()
        for band in range(bands):
            rows = pictures[number][8 * band:8 * band + 8]
            trees = model_coded_band(rows, 8 * band, tuple(slots), kind, bound, window)
            units.append(model_unit(bands, blocks, many, number, kind, keep, band, trees))
            told += model_band_shown(trees, 8 * band, tuple(slots))
        if keep is not None:
            slots[keep] = told
    return tuple(units)


def drawn_row(source, rows, columns, many):
    """Pictures of which each is often like the one ahead."""
    pictures = [any_picture(source, rows, columns)]
    while len(pictures) < many:
        near = source.randrange(4) > 0
        pictures.append(moved_picture(source, pictures[-1]) if near else any_picture(source, rows, columns))
    return tuple(pictures)


def drawn_plan(source, many, bounds=(0, 0, 1, 4, 20, 255), keeps=KEEPS):
    """A plan in which most pictures ask kept ones."""
    plan = [("key", source.choice(keeps), source.choice(bounds))]
    while len(plan) < many:
        plan.append((source.choice(["key", "other", "other"]), source.choice(keeps), source.choice(bounds)))
    return tuple(plan)


def greatest_difference(picture, other):
    return max(abs(a - b) for row, told in zip(picture, other) for a, b in zip(row, told))


class Encoded(unittest.TestCase):
    def assert_encoded(self, pictures, plan, window, by_model=True):
        before = copy.deepcopy((pictures, plan))
        units = encoded(pictures, plan, window)
        if by_model:
            self.assertEqual(units, model_encoded(pictures, plan, window))
        self.assertTrue(is_made_of_integers(units))
        self.assertIs(is_stream(units), True)
        self.assertEqual(kinds_of(units), tuple(part[:2] for part in plan))
        for picture, told, (_, _, bound) in zip(pictures, shown(units), plan):
            self.assertLessEqual(greatest_difference(picture, told), bound)
            if bound == 0:
                self.assertEqual(told, picture)
        self.assertEqual((pictures, plan), before)
        return units

    def test_the_overview(self):
        picture = ((10, 10, 10, 10, 10, 10, 10, 10),) * 8
        units = encoded((picture, picture), (("key", 0, 0), ("other", None, 0)), 0)
        self.assertEqual(shown(units), (picture, picture))
        self.assertEqual(shown(units[:1]), (picture, picture))

    def test_one_unit_for_each_picture_and_band_in_order(self):
        pictures = tuple(plain(16, 8, value) for value in (128, 140))
        units = self.assert_encoded(pictures, (("key", 1, 0), ("other", None, 0)), 0)
        places = [(read_unit(unit)[3], read_unit(unit)[6]) for unit in units]
        self.assertEqual(places, [(0, 0), (0, 1), (1, 0), (1, 1)])
        self.assertEqual([read_unit(unit)[:3] for unit in units], [(2, 1, 2)] * 4)
        units = self.assert_encoded((plain(32, 8, 7),), PLAIN_PLAN, 0)
        self.assertEqual([read_unit(unit)[6] for unit in units], [0, 1, 2, 3])
        units = self.assert_encoded((plain(8, 32, 7),), PLAIN_PLAN, 0)
        self.assertEqual([read_unit(unit)[:3] for unit in units], [(1, 4, 1)])

    def test_pictures_and_plan_as_tuples_and_lists(self):
        source = random.Random(101)
        pictures, plan = drawn_row(source, 8, 8, 2), (("key", 0, 0), ("other", 2, 5))
        units = self.assert_encoded(pictures, plan, 0)
        for row in (pictures, list(pictures)):
            for parts in (plan, list(plan)):
                before = copy.deepcopy((row, parts))
                self.assertEqual(encoded(row, parts, 0), units)
                self.assertEqual(encoded(window=0, plan=parts, pictures=row), units)
                self.assertEqual((row, parts), before)

    def test_each_kind_and_slot(self):
        source = random.Random(102)
        pictures = drawn_row(source, 8, 8, 2)
        for keep in KEEPS:
            for kind in KINDS:
                for other in KEEPS:
                    with self.subTest(keep=keep, kind=kind, other=other):
                        self.assert_encoded(pictures, (("key", keep, 0), (kind, other, 3)), 0)

    def test_each_bound(self):
        pictures = (drawn_picture(random.Random(103), 8, 8),)
        for bound in (0, 1, 2, 3, 7, 16, 100, 254, 255):
            self.assert_encoded(pictures, (("key", None, bound),), 0)

    def test_slots_as_they_are_shown(self):
        # What is kept is what is shown within the bound, not the picture itself.
        source = random.Random(104)
        for bound in (10, 40):
            pictures = drawn_row(source, 8, 8, 3)
            self.assert_encoded(pictures, (("key", 0, bound), ("other", 1, bound), ("other", None, 0)), 0)

    def test_a_key_picture_finds_no_slot(self):
        picture = drawn_picture(random.Random(105), 8, 8)
        units = self.assert_encoded((picture,) * 3, (("key", 0, 0), ("key", None, 0), ("other", None, 0)), 0)
        self.assertNotIn("motion", repr([read_unit(unit) for unit in units]))
        units = self.assert_encoded((picture,) * 3, (("key", 0, 0), ("other", None, 0), ("other", 0, 0)), 0)
        self.assertEqual(["motion" in repr(read_unit(unit)) for unit in units], [False, True, True])

    def test_motion_takes_the_places_of_the_band(self):
        picture = drawn_picture(random.Random(106), 16, 8)
        units = self.assert_encoded((picture, picture), (("key", 2, 0), ("other", None, 0)), 0)
        self.assertEqual([len(unit) for unit in units[2:]], [18, 18])
        turned = picture[8:] + picture[:8]
        self.assert_encoded((picture, turned), (("key", 2, 0), ("other", None, 0)), 0)

    def test_drawn_pictures_and_plans(self):
        source = random.Random(107)
        shapes = [((8, 8), 1), ((8, 8), 2), ((8, 8), 3), ((8, 8), 4), ((16, 8), 2), ((8, 16), 2), ((16, 16), 1)]
        for number in range(14):
            (rows, columns), many = shapes[number % len(shapes)]
            pictures = drawn_row(source, rows, columns, many)
            # At most one slot is told where there are more than 2 blocks.
            plan = drawn_plan(source, many, keeps=(None, source.randrange(3)))
            with self.subTest(number=number):
                self.assert_encoded(pictures, plan, 0)

    def test_drawn_pictures_with_windows(self):
        source = random.Random(108)
        for number in range(6):
            many = source.choice([1, 2])
            pictures = drawn_row(source, 8, 8 if many == 2 else 16, many)
            with self.subTest(number=number):
                self.assert_encoded(pictures, drawn_plan(source, many), 1)

    def test_the_largest_rows(self):
        source = random.Random(109)
        plans = ((("key", 0, 0),), (("key", 1, 9),), (("key", 2, 255),))
        for shape in ((8, 32), (32, 8), (16, 16)):
            for plan in plans:
                self.assert_encoded((drawn_picture(source, *shape),), plan, 0, by_model=False)
        four = tuple(drawn_picture(source, 8, 8) for _ in range(4))
        plan = (("key", 1, 0), ("other", 1, 3), ("other", None, 0), ("other", 1, 0))
        self.assert_encoded(four, plan, 0, by_model=False)
        two = four[:2]
        for window in (0, 1):
            for bound in (0, 30):
                self.assert_encoded(two, (("key", 1, bound), ("other", 2, bound)), window, by_model=False)
        twelve = (plain(8, 8, 128),) * 12
        self.assert_encoded(twelve, PLAIN_PLAN + (("other", None, 0),) * 11, 0, by_model=False)

    def test_equal_calls_give_the_same_units(self):
        source = random.Random(100)
        questions = [(drawn_row(source, 8, 8, 2), drawn_plan(source, 2), window) for window in (0, 1, 0)]
        first = [encoded(*question) for question in questions]
        self.assertEqual([encoded(*question) for question in questions[::-1]], first[::-1])


class Refused(unittest.TestCase):
    def assert_raises(self, error, pictures, plan):
        value = pictures if error is InvalidPicture else plan
        before = copy.deepcopy((pictures, plan))
        for window in (0, 1):
            named = {"window": window, "plan": plan, "pictures": pictures}
            for arguments, by_name in (((pictures, plan, window), {}), ((), named)):
                with self.subTest(pictures=pictures, plan=plan):
                    with self.assertRaises(error) as caught:
                        encoded(*arguments, **by_name)
                    self.assertIs(caught.exception.value, value)
        self.assertEqual((pictures, plan), before)

    def test_rows_of_pictures_that_are_none(self):
        for plan in (PLAIN_PLAN, PLAIN_PLAN * 2, (), None, "plan"):
            for pictures in ((), [], GOOD, None, "pictures", 0, nested(12, tuple), nested(12, list)):
                self.assert_raises(InvalidPicture, pictures, plan)

    def test_a_member_that_is_no_picture(self):
        for value in NO_PICTURES:
            self.assert_raises(InvalidPicture, (value,), PLAIN_PLAN)
            self.assert_raises(InvalidPicture, [GOOD, value], PLAIN_PLAN * 2)
            self.assert_raises(InvalidPicture, (value, GOOD), [])

    def test_sizes_that_differ(self):
        for shape in ((16, 8), (8, 16), (16, 16), (32, 32)):
            other = picture_of(*shape)
            self.assert_raises(InvalidPicture, (GOOD, other), PLAIN_PLAN * 2)
            self.assert_raises(InvalidPicture, [GOOD, GOOD, other], PLAIN_PLAN)
            self.assert_raises(InvalidPicture, [other, GOOD, GOOD], PLAIN_PLAN * 3)

    def test_a_plan_of_unlike_length(self):
        for many in (1, 2, 3):
            for other in range(5):
                if other != many:
                    self.assert_raises(InvalidPlan, (GOOD,) * many, PLAIN_PLAN * other)
                    self.assert_raises(InvalidPlan, [GOOD] * many, list(PLAIN_PLAN * other))

    def test_what_is_no_plan(self):
        values = [None, 0, True, "plan", "k", PLAIN_PLAN[0], nested(12, tuple), nested(12, list), {}, ((),), [[]]]
        for plan in values + NO_PICTURES:
            self.assert_raises(InvalidPlan, (GOOD,), plan)

    def test_the_first_kind_is_key(self):
        self.assert_raises(InvalidPlan, (GOOD,), (("other", None, 0),))
        self.assert_raises(InvalidPlan, (GOOD, GOOD), (("other", 0, 0), ("key", 0, 0)))

    def test_parts_that_are_none(self):
        wrong = [
            ("key",), ("key", None), ("key", None, 0, 0), (), ["key", None, 0], None, 0, "key", ("key", None, 0)[:2],
            (None, "key", 0), nested(11, tuple), nested(11, list),
        ]
        wrong += [(kind, None, 0) for kind in ("Key", "", "keys", None, 0, 1, True, (), ["key"], ("key",), "motion")]
        wrong += [("key", keep, 0) for keep in (3, -1, True, False, "0", "", (), [], (0,), FAR, -FAR)]
        wrong += [("key", None, bound) for bound in (-1, 256, True, False, None, "0", (), [], FAR, -FAR, (0,))]
        good = ("key", None, 0)
        for part in wrong:
            self.assert_raises(InvalidPlan, (GOOD,), (part,))
            self.assert_raises(InvalidPlan, [GOOD], [part])
            self.assert_raises(InvalidPlan, (GOOD, GOOD), (good, part))
            self.assert_raises(InvalidPlan, (GOOD, GOOD, GOOD), [good, part, good])

    def test_pictures_ahead_of_the_plan(self):
        self.assert_raises(InvalidPicture, (GOOD, None), (("other", None, 0),))
        self.assert_raises(InvalidPlan, (GOOD, GOOD), (("other", None, 0),))


if __name__ == "__main__":
    unittest.main()

import copy
import random
import unittest

from picturetide.errors import InvalidNumber, InvalidStream
from picturetide.reaching import ends_at, reach, reach_counts, worst_unit
from picturetide.streams import encoded, kinds_of, shown
from repairs import RepairTest
from samples import FAR, drawn_picture, is_made_of_integers, leaf_of, motion_of, nested, split_of
from stream_models import model_reach
from stream_samples import (
    SHAPES_OF_STREAMS, broken, drawn_lost, drawn_stream, mixed, pairs_of, rest_of, stream_of,
)

NO_STREAMS = [
    (), [], None, 0, True, "units", ((),), ((84,),), nested(12, tuple), nested(12, list), ("unit",), (None,),
]
STILL = (leaf_of(8),)


def all_places(top=0, rows=8, columns=8):
    return tuple((y, x) for y in range(top, top + rows) for x in range(columns))


def places(*areas):
    """The places of areas (y, x, rows, columns), ascending."""
    return tuple(sorted({(y + i, x + k) for y, x, rows, columns in areas for i in range(rows) for k in range(columns)}))


def told_stream(kinds, *trees, bands=1):
    """A stream with these trees, one after another."""
    size = (bands, len(trees[0]), len(kinds))
    return stream_of(size, kinds, lambda kind, number, band: trees[bands * number + band])


class Reach(unittest.TestCase):
    def assert_reach(self, units, lost, wanted):
        before = copy.deepcopy((units, lost))
        for row in (list(lost), tuple(lost)):
            found = reach(units, row)
            self.assertEqual(found, wanted)
            self.assertTrue(is_made_of_integers(found))
            self.assertEqual(reach_counts(units, row), tuple(len(one) for one in wanted))
        self.assertEqual(reach(lost=lost, units=units), wanted)
        self.assertEqual(reach_counts(lost=lost, units=units), tuple(len(one) for one in wanted))
        self.assertEqual((units, lost), before)

    def test_nothing_lost(self):
        source = random.Random(111)
        for size in SHAPES_OF_STREAMS:
            units = drawn_stream(source, size)
            self.assert_reach(units, (), ((),) * size[2])
            self.assertEqual(reach_counts(units, []), (0,) * size[2])

    def test_a_lost_band_is_reached_everywhere(self):
        units = told_stream([("key", None)] * 2, *[STILL] * 4, bands=2)
        self.assert_reach(units, ((0, 0),), (all_places(), ()))
        self.assert_reach(units, ((0, 1),), (all_places(8), ()))
        self.assert_reach(units, ((1, 1), (1, 1)), ((), all_places(8)))
        self.assert_reach(units, ((1, 1), (1, 0)), ((), all_places(0, 16)))
        self.assert_reach(units, ((1, 1), (0, 0), (1, 0), (0, 1)), (all_places(0, 16),) * 2)

    def test_motion_by_places(self):
        for slot in range(3):
            for dy, dx, wanted in (
                (0, 0, ((), ())), (1, 0, (places((7, 0, 1, 8)), ())), (2, 0, (places((7, 0, 1, 8)), ())),
                (3, 0, (places((6, 0, 2, 8)), ())), (-1, 0, ((), ())), (0, 5, ((), ())), (16, 0, (all_places(), ())),
                (31, -31, (all_places(), ())), (4, 4, (places((6, 0, 2, 8)), ())),
            ):
                upper = (motion_of(8, slot, dy, dx),)
                units = told_stream([("key", slot), ("other", None)], STILL, STILL, upper, STILL, bands=2)
                with self.subTest(slot=slot, dy=dy, dx=dx):
                    self.assert_reach(units, ((0, 1),), (all_places(8), wanted[0]))
        # Beyond the first row the nearest place is asked.
        lower = (motion_of(8, 0, -16),)
        units = told_stream([("key", 0), ("other", None)], STILL, STILL, lower, lower, bands=2)
        self.assert_reach(units, ((0, 0),), (all_places(), all_places(0, 16)))
        self.assert_reach(units, ((0, 1),), (all_places(8), ()))

    def assert_modes(self, mode, wanted):
        """What a leaf of 4 by 4 lets through whose upper left corner, or a part of above or left, is reached."""
        for seen, places_reached in wanted:
            quarters = [leaf_of(4), leaf_of(4), leaf_of(4), leaf_of(4, mode)]
            at = {"corner": 0, "above": 1, "left": 2}
            for name in seen:
                quarters[at[name]] = motion_of(4, 0)
            units = told_stream([("key", 0), ("other", None)], STILL, (split_of(*quarters),))
            found = reach(units, ((0, 0),))[1]
            lower_right = tuple(place for place in found if place[0] > 3 and place[1] > 3)
            with self.subTest(mode=mode, seen=seen):
                self.assertEqual(lower_right, places_reached)

    def test_what_is_asked_by_each_mode(self):
        whole = places((4, 4, 4, 4))
        # Each quarter that is reached wholly reaches on through flat quarters behind it, so corner reaches all three.
        self.assert_modes("flat", [((), ()), (("above",), whole), (("left",), whole), (("corner",), whole)])
        self.assert_modes("down", [((), ()), (("above",), whole), (("left",), ()), (("corner",), whole)])
        self.assert_modes("right", [((), ()), (("above",), ()), (("left",), whole), (("corner",), whole)])
        self.assert_modes("slope", [((), ()), (("above",), whole), (("left",), whole), (("corner",), whole)])

    def half_reached(self, tree):
        """What of a band with this tree behind a block is reached, whose lower half alone is reached."""
        first = split_of(motion_of(4, 1), motion_of(4, 1), motion_of(4, 0), motion_of(4, 0))
        kinds = [("key", 0), ("other", 1), ("other", None)]
        units = told_stream(kinds, STILL * 2, STILL * 2, (first, tree))
        found = reach(units, ((0, 0),))
        self.assertEqual(found[0], all_places(0, 8, 16))
        self.assertEqual(found[1], ())
        return found[2]

    def test_single_places_of_a_block(self):
        lower = (4, 0, 4, 8)
        self.assertEqual(self.half_reached(leaf_of(8)), places(lower, (0, 8, 8, 8)))
        self.assertEqual(self.half_reached(leaf_of(8, "right")), places(lower, (4, 8, 4, 8)))
        self.assertEqual(self.half_reached(leaf_of(8, "down")), places(lower))
        self.assertEqual(self.half_reached(leaf_of(8, "slope")), places(lower, (0, 8, 8, 8)))
        self.assertEqual(self.half_reached(motion_of(8, 1)), places(lower))
        self.assertEqual(self.half_reached(motion_of(8, 0)), places(lower, (0, 8, 8, 8)))
        # Slopes that know both sides ask one value of each and the corner.
        tree = split_of(leaf_of(4, "right"), leaf_of(4, "right"), leaf_of(4, "slope"), leaf_of(4, "slope"))
        self.assertEqual(self.half_reached(tree), places(lower, (4, 8, 4, 8)))
        tree = split_of(leaf_of(4, "right"), leaf_of(4, "right"), leaf_of(4, "right"), leaf_of(4, "down"))
        self.assertEqual(self.half_reached(tree), places(lower, (4, 8, 4, 4)))
        # Of the corner alone the whole area is reached; of a row of above or left what asks it.
        inner = split_of(leaf_of(2, "down"), leaf_of(2, "down"), leaf_of(2, "right"), leaf_of(2, "down"))
        tree = split_of(leaf_of(4, "down"), leaf_of(4, "down"), inner, leaf_of(4, "slope"))
        self.assertEqual(self.half_reached(tree), places(lower, (6, 8, 2, 2)))

    def one_place_reached(self, mode, quarter, part, dy, dx):
        """What is reached of a picture of which a part of 2 by 2 asks a quarter that is reached, and the last tree."""
        clean = motion_of(2, 1)
        quarters = [split_of(clean)] * 3
        quarters[quarter] = split_of(*[motion_of(2, 2, dy, dx) if at == part else clean for at in range(4)])
        lower_right = split_of(motion_of(4, 1), motion_of(4, 1), motion_of(4, 1), motion_of(4, 0))
        kinds = [("key", 0), ("other", 1), ("other", 2), ("other", None)]
        units = told_stream(kinds, STILL, STILL, (lower_right,), (split_of(*quarters, leaf_of(4, mode)),))
        found = reach(units, ((0, 0),))
        self.assertEqual(found[1:3], ((), places((4, 4, 4, 4))))
        return found[3]

    def test_what_a_single_place_reaches(self):
        whole = (4, 4, 4, 4)
        corner, above, left = (3, 3, 1, 1), (3, 5, 1, 1), (5, 3, 1, 1)
        for asked, place, reached in (
            ((0, 3, 2, 2), corner, {"slope": whole}),
            ((1, 2, 2, -2), above, {"flat": whole, "down": (4, 5, 4, 1), "slope": (4, 5, 4, 1)}),
            ((2, 1, -2, 2), left, {"flat": whole, "right": (5, 4, 1, 4), "slope": (5, 4, 1, 4)}),
        ):
            for mode in ("flat", "down", "right", "slope"):
                wanted = [place] + [area for name, area in reached.items() if name == mode]
                with self.subTest(place=place, mode=mode):
                    self.assertEqual(self.one_place_reached(mode, *asked), places(*wanted))

    def test_beyond_the_edges_the_nearest_place_is_asked(self):
        kinds = [("key", 0), ("other", 1), ("other", None)]
        for dy, dx in ((0, 31), (0, -31), (31, 0), (-31, 0), (31, 31), (15, 1)):
            units = told_stream(kinds, STILL * 2, (motion_of(8, 0),) * 2, (motion_of(8, 1, dy, dx),) * 2)
            self.assert_reach(units, ((0, 0),), (all_places(0, 8, 16),) * 3)
            units = told_stream(kinds, STILL, (motion_of(8, 0),), (motion_of(8, 1, dy, dx),))
            self.assert_reach(units, ((0, 0),), (all_places(),) * 3)

    def test_a_slope_asks_the_corner(self):
        first = split_of(motion_of(4, 0), leaf_of(4, "down"), motion_of(4, 1), leaf_of(4, "slope"))
        # Right of the reached quarter all is told from above, where nothing stands; below it from a slot.
        units = told_stream([("key", 0), ("other", 1), ("other", None)], STILL, STILL, (first,))
        self.assertEqual(reach(units, ((0, 0),))[2], places((0, 0, 4, 4), (4, 4, 4, 4)))
        other = split_of(motion_of(4, 0), leaf_of(4, "down"), motion_of(4, 1), leaf_of(4, "down"))
        units = told_stream([("key", 0), ("other", 1), ("other", None)], STILL, STILL, (other,))
        self.assertEqual(reach(units, ((0, 0),))[2], places((0, 0, 4, 4)))

    def test_a_slope_in_the_first_row_or_column_is_flat(self):
        for tree, wanted in (
            (split_of(motion_of(4, 0), leaf_of(4, "slope"), motion_of(4, 1), motion_of(4, 1)), (0, 4, 4, 4)),
            (split_of(motion_of(4, 0), motion_of(4, 1), leaf_of(4, "slope"), motion_of(4, 1)), (4, 0, 4, 4)),
        ):
            units = told_stream([("key", 0), ("other", 1), ("other", None)], STILL, STILL, (tree,))
            self.assertEqual(reach(units, ((0, 0),))[2], places((0, 0, 4, 4), wanted))

    def test_a_band_is_not_reached_by_the_band_above(self):
        units = told_stream([("key", None)], *[(leaf_of(8, "slope"), leaf_of(8))] * 3, bands=3)
        self.assert_reach(units, ((0, 1),), (all_places(8, 8, 16),))

    def test_kept_pictures_are_asked_as_they_were_kept(self):
        moving = (motion_of(8, 0),)
        units = told_stream([("key", 0), ("other", 0), ("other", 1), ("other", None)], STILL, STILL, moving, moving)
        self.assert_reach(units, ((0, 0),), (all_places(), (), (), ()))
        self.assert_reach(units, ((1, 0),), ((), all_places(), all_places(), all_places()))
        units = told_stream([("key", 0), ("other", 1), ("other", 0), ("other", None)], STILL, moving, STILL, moving)
        self.assert_reach(units, ((0, 0),), (all_places(), all_places(), (), ()))
        units = told_stream([("key", 0), ("other", 0), ("other", None)], STILL, moving, moving)
        self.assert_reach(units, ((0, 0),), (all_places(),) * 3)

    def test_a_key_picture_ends_it(self):
        moving = (motion_of(8, 0),)
        units = told_stream([("key", 0), ("other", 0), ("key", None), ("other", None)], STILL, moving, STILL, moving)
        self.assert_reach(units, ((0, 0), (1, 0)), (all_places(), all_places(), (), ()))

    def test_a_slot_that_is_astray(self):
        moving = (motion_of(8, 2),)
        plan = [("key", 2), ("other", 2), ("other", None), ("other", 2), ("other", None)]
        units = told_stream(plan, STILL, STILL, moving, STILL, moving)
        self.assert_reach(units, ((1, 0),), ((), all_places(), all_places(), (), ()))
        # A picture that is kept nowhere leaves no slot astray.
        self.assert_reach(units, ((2, 0),), ((), (), all_places(), (), ()))

    def test_a_key_picture_wholly_lost_leaves_all_slots_astray(self):
        moving = [(motion_of(8, slot),) for slot in range(3)]
        plan = [("key", 0), ("key", None), ("other", None), ("other", None), ("other", None)]
        dark = (leaf_of(8, levels=((-100,) + (0,) * 7,) + ((0,) * 8,) * 7),)
        units = told_stream(plan, dark, STILL, *moving)
        # The slots are empty in the whole stream; without the key picture they are not.
        self.assert_reach(units, ((1, 0),), ((), *[all_places()] * 4))
        self.assert_reach(units, ((0, 0),), (all_places(), (), (), (), ()))
        self.assertNotEqual(shown(rest_of(units, [(1, 0)]))[2], shown(units)[2])
        plan = [("key", 0), ("key", None), ("other", 1), ("other", None), ("key", None), ("other", None)]
        units = told_stream(plan, STILL, STILL, STILL, moving[1], STILL, moving[0])
        self.assert_reach(units, ((1, 0),), ((), all_places(), (), (), (), ()))
        units = told_stream(plan, STILL, STILL, STILL, moving[0], STILL, moving[0])
        self.assert_reach(units, ((1, 0),), ((), all_places(), (), all_places(), (), ()))

    def test_a_key_picture_of_which_a_band_is_left(self):
        moving = (motion_of(8, 0),)
        plan = [("key", 0), ("key", None), ("other", None)]
        units = told_stream(plan, STILL, STILL, STILL, STILL, moving, moving, bands=2)
        self.assert_reach(units, ((1, 0),), ((), all_places(), ()))
        self.assert_reach(units, ((1, 1), (0, 0)), (all_places(), all_places(8), ()))
        self.assert_reach(units, ((1, 1), (1, 0)), ((), all_places(0, 16), all_places(0, 16)))

    def test_a_kept_picture_of_which_a_band_is_left(self):
        moving = (motion_of(8, 1),)
        plan = [("key", 1), ("other", 1), ("other", None)]
        units = told_stream(plan, STILL, STILL, STILL, STILL, moving, moving, bands=2)
        self.assert_reach(units, ((1, 0),), ((), all_places(), all_places()))
        self.assert_reach(units, ((1, 1),), ((), all_places(8), all_places(8)))
        self.assert_reach(units, ((1, 1), (1, 0)), ((), all_places(0, 16), all_places(0, 16)))
        astray_till_kept = [("key", 1), ("other", 1), ("other", 1), ("other", None)]
        units = told_stream(astray_till_kept, *[STILL] * 6, moving, moving, bands=2)
        self.assert_reach(units, ((1, 1), (1, 0), (2, 0)), ((), all_places(0, 16), all_places(), all_places()))
        self.assert_reach(units, ((1, 1), (1, 0)), ((), all_places(0, 16), (), ()))

    def test_drawn_streams(self):
        source = random.Random(112)
        for size in SHAPES_OF_STREAMS:
            units = drawn_stream(source, size)
            for _ in range(3):
                lost = drawn_lost(source, units)
                with self.subTest(size=size, lost=lost):
                    self.assert_reach(units, lost, model_reach(units, lost))
            self.assert_reach(units, pairs_of(units), (all_places(0, 8 * size[0], 8 * size[1]),) * size[2])

    def test_encoded_streams(self):
        source = random.Random(113)
        for _ in range(6):
            pictures = tuple(drawn_picture(source, 8, 8, (128, 130, 9)) for _ in range(2)) * 2
            plan = (("key", 0, 0), ("other", None, 2), ("other", 0, 0), ("other", 0, 9))
            units = encoded(pictures, plan, 0)
            lost = drawn_lost(source, units)
            self.assert_reach(units, lost, model_reach(units, lost))


class Repairs(RepairTest):
    """The bold sentence of point 18."""

    def test_drawn_losses(self):
        source = random.Random(114)
        changed = 0
        for size in SHAPES_OF_STREAMS * 2:
            units = drawn_stream(source, size)
            lost = drawn_lost(source, units)
            left = rest_of(units, lost)
            values = mixed(source, left) + [broken(source, source.choice(units)) for _ in range(2)]
            source.shuffle(values)
            with self.subTest(size=size, lost=lost):
                self.assert_repaired(units, lost, values)
                changed += shown(values) not in ((), shown(units))
        self.assertGreater(changed, 8)

    def test_each_single_loss(self):
        source = random.Random(115)
        for size in ((1, 1, 6), (2, 1, 4), (2, 2, 2), (3, 1, 3)):
            units = drawn_stream(source, size)
            for pair in pairs_of(units):
                self.assert_repaired(units, [pair], rest_of(units, [pair])[::-1])

    def test_each_picture_wholly_lost(self):
        source = random.Random(116)
        for size in ((1, 1, 8), (2, 1, 6), (1, 2, 5)):
            for _ in range(3):
                units = drawn_stream(source, size)
                for number in range(size[2]):
                    lost = [pair for pair in pairs_of(units) if pair[0] == number]
                    self.assert_repaired(units, lost, mixed(source, rest_of(units, lost)))

    def test_what_ends_at_a_key_picture(self):
        source = random.Random(117)
        for size in ((1, 1, 8), (2, 1, 6), (1, 2, 5)):
            units = drawn_stream(source, size)
            for number in range(size[2]):
                lost = [pair for pair in pairs_of(units) if pair[0] <= number]
                end = ends_at(units, number)
                self.assertEqual(sum(reach_counts(units, lost)[end:]), 0)
                if end < size[2]:
                    self.assertEqual(shown(rest_of(units, lost))[end:], shown(units)[end:])


class Ends(unittest.TestCase):
    def test_ends_at(self):
        kinds = [("key", 0), ("other", None), ("key", None), ("key", 1), ("other", 2), ("other", 0)]
        units = told_stream(kinds, *[STILL] * 6)
        before = copy.deepcopy(units)
        self.assertEqual([ends_at(units, number) for number in range(6)], [2, 2, 3, 6, 6, 6])
        self.assertEqual([ends_at(number=number, units=units) for number in range(6)], [2, 2, 3, 6, 6, 6])
        self.assertEqual(ends_at(told_stream([("key", 0)], STILL), 0), 1)
        self.assertEqual(units, before)

    def test_drawn_streams(self):
        source = random.Random(118)
        for size in SHAPES_OF_STREAMS:
            units = drawn_stream(source, size)
            kinds = kinds_of(units)
            for number in range(size[2]):
                keys = [at for at in range(size[2]) if at > number and kinds[at][0] == "key"]
                self.assertEqual(ends_at(units, number), (keys + [size[2]])[0])

    def test_numbers_of_no_picture(self):
        for units in (told_stream([("key", 0)], STILL), told_stream([("key", 0)] * 3, *[STILL] * 6, bands=2)):
            many = units[0][4]
            for number in (many, many + 1, -1, FAR, -FAR, True, False, None, "0", "", (), (0,), [], [0]):
                for arguments, named in (((units, number), {}), ((), {"units": units, "number": number})):
                    with self.subTest(number=number), self.assertRaises(InvalidNumber) as caught:
                        ends_at(*arguments, **named)
                    self.assertIs(caught.exception.value, number)


class Worst(unittest.TestCase):
    def assert_worst(self, units, wanted):
        before = copy.deepcopy(units)
        self.assertEqual(worst_unit(units), wanted)
        self.assertEqual(worst_unit(units=units), wanted)
        self.assertTrue(is_made_of_integers(worst_unit(units)))
        self.assertEqual(units, before)

    def test_the_first_of_several(self):
        self.assert_worst(told_stream([("key", None)] * 3, *[STILL] * 3), (0, 0))
        self.assert_worst(told_stream([("key", None)] * 2, *[STILL] * 6, bands=3), (0, 0))
        moving = (motion_of(8, 0),)
        self.assert_worst(told_stream([("key", None), ("other", 0), ("other", None)], STILL, STILL, moving), (1, 0))
        self.assert_worst(told_stream([("key", 1), ("key", 0), ("other", 0)], STILL, STILL, moving), (1, 0))
        lower = (motion_of(8, 0, 16),)
        kinds = [("key", 0), ("other", None)]
        self.assert_worst(told_stream(kinds, STILL, STILL, lower, STILL, bands=2), (0, 1))

    def test_drawn_streams(self):
        source = random.Random(119)
        found = {}
        for number in range(24):
            units = drawn_stream(source, source.choice([(1, 1, 6), (2, 1, 3), (1, 2, 3), (1, 1, 4), (3, 1, 2)]))
            counts = [(sum(len(one) for one in model_reach(units, [pair])), pair) for pair in pairs_of(units)]
            wanted = [pair for count, pair in counts if count == max(counts)[0]][0]
            with self.subTest(number=number):
                self.assert_worst(units, wanted)
            found[wanted] = True
        self.assertGreater(len(found), 2)


class Wrong(unittest.TestCase):
    def no_streams(self):
        units = drawn_stream(random.Random(120), (2, 1, 2))
        return NO_STREAMS + [list(units), units[1:], units[:3], units[::-1], units + units, (units,), units[:1] + units]

    def test_what_is_no_stream(self):
        for value in self.no_streams():
            for function, more in ((reach, {"lost": ((9, 9), None)}), (reach_counts, {"lost": [()]}),
                                   (ends_at, {"number": -1}), (worst_unit, {}), (reach, {"lost": ()})):
                before = copy.deepcopy(value)
                for arguments, named in (((value, *more.values()), {}), ((), dict(more, units=value))):
                    with self.subTest(function=function.__name__, value=value):
                        with self.assertRaises(InvalidStream) as caught:
                            function(*arguments, **named)
                        self.assertIs(caught.exception.value, value)
                self.assertEqual(value, before)

    def test_the_first_that_is_no_pair(self):
        units = drawn_stream(random.Random(121), (2, 1, 3))
        wrong = [
            (3, 0), (0, 2), (-1, 0), (0, -1), (3, 2), (FAR, 0), (0, -FAR), (True, 0), (0, True), (False, 0), (0, False),
            (None, 0), (0, None), ("0", 0), (0, "0"), ((0,), 0), (0, (0,)), ([0], 0), [0, 0], (), (0,), (0, 0, 0), None,
            0, True, "00", "", [], nested(12, tuple), nested(11, list), ((0, 0),), {},
        ]
        for pair in wrong:
            for lost in ((pair,), [(0, 0), pair, (9, 9)], ((2, 1), (2, 1), pair), [pair, None]):
                before = copy.deepcopy(lost)
                for function in (reach, reach_counts):
                    with self.subTest(lost=lost), self.assertRaises(InvalidNumber) as caught:
                        function(units, lost)
                    self.assertIs(caught.exception.value, pair)
                self.assertEqual(lost, before)
            with self.assertRaises(InvalidNumber) as caught:
                reach(lost=[pair], units=units)
            self.assertIs(caught.exception.value, pair)


if __name__ == "__main__":
    unittest.main()

import copy
import random
import unittest

from picturetide.edits import cut, first_apart, greatest_errors, joined, keys_of, replaced, shown_from
from picturetide.errors import InvalidNumber, InvalidPicture, InvalidStream, NoKey, TooLong
from picturetide.pictures import plain
from picturetide.streams import encoded, is_stream, shown
from samples import FAR, NO_PICTURES, is_made_of_integers, leaf_of, motion_of, nested, picture_of, with_value
from stream_models import model_read_unit, model_unit
from stream_samples import any_picture, drawn_kinds, drawn_stream, stream_of

NO_NUMBERS = (-1, FAR, -FAR, True, False, None, "0", "", (), (0,), [], [0])
STILL = (leaf_of(8),)
NOT_STREAMS = [(), [], None, 0, True, "units", ((),), ((84,),), nested(12, tuple), nested(12, list), (None,)]


def grey(value):
    return (leaf_of(8, levels=((value - 128,) + (0,) * 7,) + ((0,) * 8,) * 7),)


def grey_stream(kinds, *greys):
    """A stream of pictures of one block, each of one value; kinds are told as "k" and "o", all kept in slot 0."""
    words = {"k": ("key", 0), "o": ("other", 0)}
    return stream_of((1, 1, len(kinds)), [words[kind] for kind in kinds],
                     lambda kind, number, band: grey(greys[number % len(greys)]))


def model_assembled(*parts):
    """One stream of parts (stream, start, end)."""
    told = [[model_read_unit(unit) for unit in units] for units, _, _ in parts]
    many = sum(end - start for _, start, end in parts)
    found, ahead = [], 0
    for (_, start, end), units in zip(parts, told):
        for unit in units:
            if start <= unit[3] < end:
                found.append(model_unit(*unit[:2], many, ahead + unit[3] - start, *unit[4:]))
        ahead += end - start
    return tuple(found)


def key_numbers(units):
    return sorted({256 * unit[5] + unit[6] for unit in units if unit[7] == 0})


def many_of(units):
    return units[0][4]


def wrong_streams(units):
    """What is no stream, some of it made of a stream of two units or more."""
    return NOT_STREAMS + [list(units), units[1:], units[:-1], units[::-1], units * 2, (units,), units[:1] + units,
                          units[:-1] + (units[-1][:-1],), units[:-1] + (list(units[-1]),)]


class Edits(unittest.TestCase):
    def assert_same(self, function, named, wanted):
        """The function returns this by position and by name, and changes nothing."""
        before = copy.deepcopy(named)
        found = function(*named.values())
        self.assertEqual(found, wanted)
        self.assertEqual(function(**dict(reversed(list(named.items())))), wanted)
        self.assertTrue(is_made_of_integers(found))
        self.assertEqual(named, before)
        return found

    def assert_raises(self, error, function, named, value):
        before = copy.deepcopy(named)
        for arguments, by_name in ((tuple(named.values()), {}), ((), dict(reversed(list(named.items()))))):
            with self.subTest(function=function.__name__, named=named):
                with self.assertRaises(error) as caught:
                    function(*arguments, **by_name)
                field = "number" if error in (NoKey, TooLong) else "value"
                found = getattr(caught.exception, field)
                self.assertEqual((type(found), found), (type(value), value))
        self.assertEqual(named, before)

    def assert_no_stream(self, function, named, name):
        """InvalidStream is raised with what is no stream under this name."""
        for value in wrong_streams(grey_stream("kok", 1, 2)):
            self.assert_raises(InvalidStream, function, dict(named, **{name: value}), value)


class Seeks(Edits):
    def test_keys_of(self):
        self.assert_same(keys_of, {"units": grey_stream("kookkok", 1)}, (0, 3, 4, 6))
        self.assert_same(keys_of, {"units": grey_stream("k", 1)}, (0,))
        self.assert_same(keys_of, {"units": grey_stream("kooooo", 1)}, (0,))
        source = random.Random(141)
        for size in ((1, 1, 12), (2, 1, 6), (1, 3, 4)):
            units = drawn_stream(source, size)
            self.assert_same(keys_of, {"units": units}, tuple(key_numbers(units)))
        self.assert_no_stream(keys_of, {"units": ()}, "units")

    def test_shown_from(self):
        source = random.Random(142)
        for size in ((1, 1, 1), (1, 1, 12), (2, 1, 6), (2, 2, 4), (1, 3, 4), (4, 1, 3)):
            units = drawn_stream(source, size)
            pictures = shown(units)
            for number in range(size[2]):
                with self.subTest(size=size, number=number):
                    self.assert_same(shown_from, {"units": units, "number": number}, pictures[number])

    def test_shown_from_numbers_of_no_picture(self):
        for units in (grey_stream("k", 1), grey_stream("kok", 1), drawn_stream(random.Random(143), (3, 1, 2))):
            for number in NO_NUMBERS + (many_of(units), many_of(units) + 1):
                self.assert_raises(InvalidNumber, shown_from, {"units": units, "number": number}, number)

    def test_what_is_no_stream_ahead_of_the_number(self):
        for number in (0, -1, None):
            self.assert_no_stream(shown_from, {"units": (), "number": number}, "units")


class Cuts(Edits):
    def test_drawn_cuts(self):
        source = random.Random(144)
        for size in ((1, 1, 12), (2, 1, 6), (2, 2, 4), (1, 3, 4), (4, 1, 3), (1, 1, 1)):
            units = drawn_stream(source, size, [("key", 0)] + drawn_kinds(source, size[2])[1:])
            pictures = shown(units)
            for start in key_numbers(units):
                for end in range(start + 1, size[2] + 1):
                    with self.subTest(size=size, start=start, end=end):
                        found = self.assert_same(cut, {"units": units, "start": start, "end": end},
                                                 model_assembled((units, start, end)))
                        self.assertIs(is_stream(found), True)
                        self.assertEqual(shown(found), pictures[start:end])

    def test_all_of_a_stream(self):
        units = grey_stream("kok", 1, 2, 3)
        self.assert_same(cut, {"units": units, "start": 0, "end": 3}, units)

    def test_numbers_that_are_none(self):
        units = grey_stream("kok", 1)
        for start in NO_NUMBERS + (3, 4):
            for end in (1, 2, 3, 4, -1, None):
                self.assert_raises(InvalidNumber, cut, {"units": units, "start": start, "end": end}, start)
        for end in NO_NUMBERS + (4, 5, 0):
            for start in (0, 1, 2):
                self.assert_raises(InvalidNumber, cut, {"units": units, "start": start, "end": end}, end)
        for start, end in ((1, 1), (2, 1), (2, 2), (2, 0), (1, 0)):
            self.assert_raises(InvalidNumber, cut, {"units": units, "start": start, "end": end}, end)

    def test_a_start_that_is_no_key_picture(self):
        units = grey_stream("koko", 1)
        for start in (1, 3):
            for end in range(start + 1, 5):
                self.assert_raises(NoKey, cut, {"units": units, "start": start, "end": end}, start)

    def test_what_is_no_stream_ahead_of_all(self):
        for start, end in ((0, 1), (-1, 1), (0, -1), (1, 2), (None, None)):
            self.assert_no_stream(cut, {"units": (), "start": start, "end": end}, "units")


class Joints(Edits):
    def test_drawn_joints(self):
        source = random.Random(145)
        for size in ((1, 1), (2, 1), (1, 2), (2, 2), (1, 4)):
            for many, other_many in ((1, 1), (1, 3), (2, 2), (3, 1)):
                units, other = drawn_stream(source, (*size, many)), drawn_stream(source, (*size, other_many))
                with self.subTest(size=size, many=many, other_many=other_many):
                    found = self.assert_same(joined, {"units": units, "other": other},
                                             model_assembled((units, 0, many), (other, 0, other_many)))
                    self.assertIs(is_stream(found), True)
                    self.assertEqual(shown(found), shown(units) + shown(other))

    def test_a_stream_with_itself(self):
        units = drawn_stream(random.Random(146), (1, 1, 6))
        found = self.assert_same(joined, {"units": units, "other": units}, model_assembled((units, 0, 6), (units, 0, 6)))
        self.assertEqual(shown(found), shown(units) * 2)

    def test_what_was_kept_is_not_seen_behind(self):
        first = grey_stream("k", 10)
        second = stream_of((1, 1, 2), [("key", None), ("other", None)],
                           lambda kind, number, band: STILL if number == 0 else (motion_of(8, 0),))
        self.assertEqual(shown(joined(first, second)), (plain(8, 8, 10), plain(8, 8, 128), plain(8, 8, 128)))

    def test_unlike_sizes(self):
        source = random.Random(147)
        units = drawn_stream(source, (1, 1, 2))
        for size in ((2, 1, 2), (1, 2, 2), (2, 2, 2), (1, 2, 1)):
            other = drawn_stream(source, size)
            self.assert_raises(InvalidStream, joined, {"units": units, "other": other}, other)
            self.assert_raises(InvalidStream, joined, {"units": other, "other": units}, units)
        long = drawn_stream(source, (1, 1, 12))
        wide = drawn_stream(source, (1, 2, 1))
        self.assert_raises(InvalidStream, joined, {"units": long, "other": wide}, wide)

    def test_too_long(self):
        streams = {many: grey_stream("k" + "o" * (many - 1), 7) for many in range(1, 13)}
        for many in range(1, 13):
            for other_many in range(1, 13):
                named = {"units": streams[many], "other": streams[other_many]}
                if many + other_many > 12:
                    self.assert_raises(TooLong, joined, named, many + other_many)
                elif other_many in (1, 12 - many):
                    self.assertEqual(many_of(joined(**named)), many + other_many)

    def test_what_is_no_stream(self):
        units = grey_stream("kok", 1)
        for other in (units, (), grey_stream("k" * 12, 1), None):
            self.assert_no_stream(joined, {"units": (), "other": other}, "units")
        self.assert_no_stream(joined, {"units": grey_stream("k" * 12, 1), "other": ()}, "other")


class Replacements(Edits):
    def test_drawn_replacements(self):
        source = random.Random(148)
        for size in ((1, 1), (2, 1), (1, 2)):
            for kinds in ("kokok", "kkkk", "kookoo", "kk", "k"):
                many = len(kinds)
                roles = [({"k": "key", "o": "other"}[kind], source.choice([None, 0, 1, 2])) for kind in kinds]
                units, other = drawn_stream(source, (*size, many), roles), drawn_stream(source, (*size, 2))
                pictures, others = shown(units), shown(other)
                for start in key_numbers(units):
                    for end in [key for key in key_numbers(units) if key > start] + [many]:
                        with self.subTest(size=size, kinds=kinds, start=start, end=end):
                            named = {"units": units, "start": start, "end": end, "other": other}
                            wanted = model_assembled((units, 0, start), (other, 0, 2), (units, end, many))
                            found = self.assert_same(replaced, named, wanted)
                            self.assertIs(is_stream(found), True)
                            self.assertEqual(shown(found), pictures[:start] + others + pictures[end:])

    def test_nothing_ahead_or_behind(self):
        units, other = grey_stream("kk", 1, 2), grey_stream("kok", 3, 4, 5)
        self.assert_same(replaced, {"units": units, "start": 0, "end": 2, "other": other}, other)
        self.assertEqual(shown(replaced(units, 0, 1, other)), shown(other) + shown(units)[1:])
        self.assertEqual(shown(replaced(units, 1, 2, other)), shown(units)[:1] + shown(other))

    def test_the_errors_of_cut(self):
        units, other = grey_stream("kok", 1), grey_stream("k", 2)
        for start in NO_NUMBERS + (3,):
            for end in (1, 4, None):
                self.assert_raises(InvalidNumber, replaced,
                                   {"units": units, "start": start, "end": end, "other": other}, start)
        for end in NO_NUMBERS + (4, 0):
            for start in (0, 1, 2):
                self.assert_raises(InvalidNumber, replaced,
                                   {"units": units, "start": start, "end": end, "other": other}, end)
        for start, end in ((1, 1), (2, 1), (2, 2)):
            self.assert_raises(InvalidNumber, replaced,
                               {"units": units, "start": start, "end": end, "other": other}, end)
        for end in (2, 3):
            self.assert_raises(NoKey, replaced, {"units": units, "start": 1, "end": end, "other": other}, 1)

    def test_an_end_that_is_no_key_picture(self):
        units = grey_stream("kokok", 1)
        for start, end in ((0, 1), (0, 3), (2, 3)):
            for other in (grey_stream("k", 2), drawn_stream(random.Random(149), (1, 2, 1)), grey_stream("k" * 12, 2)):
                self.assert_raises(NoKey, replaced, {"units": units, "start": start, "end": end, "other": other}, end)
        # The start is looked at ahead of the end.
        self.assert_raises(NoKey, replaced, {"units": units, "start": 1, "end": 3, "other": grey_stream("k", 2)}, 1)

    def test_unlike_sizes(self):
        units = grey_stream("kkk", 1)
        for other in (drawn_stream(random.Random(150), size) for size in ((2, 1, 1), (1, 2, 1), (1, 2, 8))):
            for start, end in ((0, 1), (1, 2), (2, 3), (0, 3)):
                self.assert_raises(InvalidStream, replaced,
                                   {"units": units, "start": start, "end": end, "other": other}, other)
        wide = drawn_stream(random.Random(151), (1, 2, 1))
        self.assert_raises(InvalidStream, replaced,
                           {"units": grey_stream("k" * 12, 1), "start": 0, "end": 1, "other": wide}, wide)

    def test_too_long(self):
        units = grey_stream("k" * 6, 1)
        for start, end in ((0, 1), (5, 6), (2, 4), (0, 6), (0, 5)):
            for many in (1, 6, 7, 8, 9, 11, 12):
                count = 6 - (end - start) + many
                named = {"units": units, "start": start, "end": end, "other": grey_stream("k" * many, 2)}
                if count > 12:
                    self.assert_raises(TooLong, replaced, named, count)
                else:
                    self.assertEqual(many_of(replaced(**named)), count)

    def test_what_is_no_stream(self):
        units = grey_stream("kok", 1)
        for start, end in ((0, 2), (-1, 0), (1, 2), (None, None), (0, 1)):
            for other in (units, (), None):
                self.assert_no_stream(replaced, {"units": (), "start": start, "end": end, "other": other}, "units")
            self.assert_no_stream(replaced, {"units": units, "start": start, "end": end, "other": ()}, "other")


class Comparisons(Edits):
    def model_first_apart(self, units, other):
        if units[0][1:3] != other[0][1:3]:
            return (0, 0, 0)
        pictures, others = shown(units), shown(other)
        for number in range(min(len(pictures), len(others))):
            for y, row in enumerate(pictures[number]):
                for x, value in enumerate(row):
                    if value != others[number][y][x]:
                        return (number, y, x)
        return None if len(pictures) == len(others) else (min(len(pictures), len(others)), 0, 0)

    def assert_apart(self, units, other, wanted):
        for named in ({"units": units, "other": other}, {"units": other, "other": units}):
            found = self.assert_same(first_apart, named, wanted) if wanted else first_apart(**named)
            self.assertEqual(found, wanted)
            self.assertEqual(first_apart(*named.values()), wanted)

    def test_the_same(self):
        source = random.Random(152)
        for size in ((1, 1, 3), (2, 2, 2), (1, 4, 1)):
            units = drawn_stream(source, size)
            self.assert_apart(units, units, None)
        # What is shown counts, not how it is coded.
        plans = [(("key", None, 0), ("key", None, 0)), (("key", 1, 0), ("other", None, 0))]
        picture = picture_of(8, 8)
        streams = [encoded((picture, picture), plan, 0) for plan in plans]
        self.assertNotEqual(*streams)
        self.assert_apart(*streams, None)

    def test_the_first_place(self):
        base = picture_of(16, 8)
        for number in range(2):
            for y, x in ((0, 0), (0, 7), (3, 4), (8, 0), (15, 7), (7, 7)):
                pictures = [base, base]
                pictures[number] = with_value(base, y, x, (base[y][x] + 1) % 256)
                plan = (("key", None, 0),) * 2
                self.assert_apart(encoded((base, base), plan, 0), encoded(pictures, plan, 0), (number, y, x))

    def test_just_the_first_pictures_of_the_other(self):
        for many in range(1, 5):
            for other_many in range(1, 5):
                wanted = None if many == other_many else (min(many, other_many), 0, 0)
                self.assert_apart(grey_stream("k" * many, 1, 2, 3, 4), grey_stream("k" * other_many, 1, 2, 3, 4), wanted)
        self.assert_apart(grey_stream("kkk", 1, 2, 3), grey_stream("kk", 1, 7), (1, 0, 0))

    def test_unlike_sizes(self):
        source = random.Random(153)
        units = grey_stream("kk", 128)
        for size in ((2, 1, 2), (1, 2, 2), (2, 2, 1)):
            self.assert_apart(units, drawn_stream(source, size), (0, 0, 0))

    def test_drawn_streams(self):
        source = random.Random(154)
        found = {}
        for _ in range(25):
            units = drawn_stream(source, (1, 1, 4))
            tail = drawn_stream(source, (1, 1, 2))
            start = source.choice(key_numbers(units))
            other = replaced(units, start, 4, source.choice([tail, cut(units, 0, source.randrange(1, 5))]))
            wanted = self.model_first_apart(units, other)
            self.assert_apart(units, other, wanted)
            found[wanted] = True
        self.assertGreater(len(found), 4)

    def test_first_apart_of_what_is_no_stream(self):
        units = grey_stream("kok", 1)
        for other in (units, (), None, drawn_stream(random.Random(155), (1, 2, 1))):
            self.assert_no_stream(first_apart, {"units": (), "other": other}, "units")
        self.assert_no_stream(first_apart, {"units": units, "other": ()}, "other")

    def test_greatest_errors(self):
        units = grey_stream("kok", 10, 200, 255)
        pictures = (plain(8, 8, 10), with_value(plain(8, 8, 200), 3, 4, 0), with_value(plain(8, 8, 250), 7, 7, 255))
        for row in (pictures, list(pictures)):
            self.assert_same(greatest_errors, {"units": units, "pictures": row}, (0, 200, 5))
        source = random.Random(156)
        for size in ((1, 1, 4), (2, 2, 2), (1, 4, 1), (4, 1, 2)):
            units = drawn_stream(source, size)
            pictures = tuple(any_picture(source, 8 * size[0], 8 * size[1]) for _ in range(size[2]))
            wanted = tuple(max(abs(a - b) for row, told in zip(picture, other) for a, b in zip(row, told))
                           for picture, other in zip(pictures, shown(units)))
            self.assert_same(greatest_errors, {"units": units, "pictures": pictures}, wanted)
            self.assert_same(greatest_errors, {"units": units, "pictures": shown(units)}, (0,) * size[2])

    def test_pictures_that_do_not_fit(self):
        units = grey_stream("kok", 10)
        good = plain(8, 8, 10)
        rows = [(), [], None, 0, "pictures", good, (good,), (good,) * 2, (good,) * 4, [good] * 2, (good, good, None),
                (plain(16, 8, 10),) * 3, (plain(8, 16, 10),) * 3, [plain(32, 32, 0)] * 3, (good, good, plain(8, 16, 1)),
                nested(12, tuple), nested(12, list)] + [(good, value, good) for value in NO_PICTURES]
        for row in rows:
            self.assert_raises(InvalidPicture, greatest_errors, {"units": units, "pictures": row}, row)

    def test_the_stream_ahead_of_the_pictures(self):
        for row in ((), None, (plain(8, 8, 10),) * 3):
            self.assert_no_stream(greatest_errors, {"units": (), "pictures": row}, "units")


if __name__ == "__main__":
    unittest.main()

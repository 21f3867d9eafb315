import unittest

from picturetide import errors
from picturetide.errors import TideError

FIELDS = {
    "InvalidPicture": ("value",),
    "InvalidStream": ("value",),
    "InvalidPlan": ("value",),
    "InvalidTree": ("value",),
    "InvalidNumber": ("value",),
    "InvalidText": ("text", "at"),
    "InvalidLine": ("line", "at"),
    "InvalidClaim": ("value",),
    "Refused": ("claim",),
    "NoKey": ("number",),
    "TooLong": ("number",),
    "UnknownName": ("name",),
    "NothingToUndo": ("word",),
    "Undefined": ("what",),
}

ARGUMENTS = [
    3, -1, 0, 10 ** 12, -10 ** 12, True, False, None, "", "picture", "a\nb{}%",
    (), (1, 2), [], [1, [2]], ((0,) * 8,) * 8,
]


def classes():
    return [(getattr(errors, name), fields) for name, fields in FIELDS.items()]


def argument_lists(fields):
    """For each argument of ARGUMENTS, a list of arguments that begins with it; those of one list differ."""
    return [[argument, [number]][:len(fields)] for number, argument in enumerate(ARGUMENTS)]


def kept(error, fields):
    return [getattr(error, field) for field in fields]


class Standing(unittest.TestCase):
    def test_tide_error_stands_directly_under_value_error(self):
        self.assertEqual(TideError.__bases__, (ValueError,))

    def test_there_are_fourteen_others_and_no_more(self):
        found = {
            name for name, value in vars(errors).items()
            if isinstance(value, type) and issubclass(value, BaseException) and value is not TideError
        }
        self.assertEqual(len(FIELDS), 14)
        self.assertEqual(found, set(FIELDS))

    def test_each_stands_directly_under_tide_error(self):
        for cls, _ in classes():
            with self.subTest(cls=cls.__name__):
                self.assertEqual(cls.__bases__, (TideError,))
                self.assertTrue(issubclass(cls, TideError))
                self.assertTrue(issubclass(cls, ValueError))

    def test_none_is_one_of_the_others(self):
        for cls, fields in classes():
            error = cls(*argument_lists(fields)[0])
            self.assertIsInstance(error, TideError)
            self.assertIsInstance(error, ValueError)
            for other, _ in classes():
                with self.subTest(cls=cls.__name__, other=other.__name__):
                    self.assertEqual(isinstance(error, other), other is cls)


class Keeping(unittest.TestCase):
    def test_arguments_by_position(self):
        for cls, fields in classes():
            for number, arguments in enumerate(argument_lists(fields)):
                with self.subTest(cls=cls.__name__, number=number):
                    self.assert_same(kept(cls(*arguments), fields), arguments)

    def test_arguments_by_name(self):
        for cls, fields in classes():
            for number, arguments in enumerate(argument_lists(fields)):
                with self.subTest(cls=cls.__name__, number=number):
                    named = dict(zip(fields, arguments))
                    self.assert_same(kept(cls(**named), fields), arguments)

    def test_two_arguments_by_position_and_name(self):
        for name, first in (("InvalidText", "text"), ("InvalidLine", "line")):
            cls = getattr(errors, name)
            for error in (cls("ab", at=1), cls(at=1, **{first: "ab"})):
                with self.subTest(cls=name):
                    self.assertEqual(getattr(error, first), "ab")
                    self.assertEqual(error.at, 1)

    def test_later_errors_change_nothing(self):
        for cls, fields in classes():
            lists = argument_lists(fields)
            made = [cls(*arguments) for arguments in lists]
            for error, arguments in zip(made, lists):
                with self.subTest(cls=cls.__name__):
                    self.assert_same(kept(error, fields), arguments)

    def test_raised_and_caught_as_tide_error(self):
        for cls, fields in classes():
            for number, arguments in enumerate(argument_lists(fields)):
                with self.subTest(cls=cls.__name__, number=number):
                    try:
                        raise cls(*arguments)
                    except TideError as error:
                        self.assertIs(type(error), cls)
                        self.assert_same(kept(error, fields), arguments)

    def test_caught_as_value_error(self):
        for cls, fields in classes():
            with self.subTest(cls=cls.__name__):
                with self.assertRaises(ValueError) as caught:
                    raise cls(*argument_lists(fields)[0])
                self.assert_same(kept(caught.exception, fields), argument_lists(fields)[0])

    def test_a_kept_list_is_the_one_handed_in_and_unchanged(self):
        for cls, fields in classes():
            with self.subTest(cls=cls.__name__):
                told = [[1, [2]] for _ in fields]
                error = cls(*told)
                for field, one in zip(fields, told):
                    self.assertIs(getattr(error, field), one)
                    self.assertEqual(one, [1, [2]])

    def assert_same(self, found, wanted):
        self.assertEqual(len(found), len(wanted))
        for one, other in zip(found, wanted):
            self.assertIs(type(one), type(other))
            self.assertTrue(one == other)


if __name__ == "__main__":
    unittest.main()

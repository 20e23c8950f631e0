"""The interface's keytables/errors.py."""

import unittest

from keytables import errors
from keytables.errors import Broken, TableError, TooMany, TooWide

WITH_A_TEXT = [
    "NoSet", "NoBook", "NoHanging", "Unlike", "NoTable", "NoSplit", "NoRow", "NoColumn", "NoNumber",
    "NoGiven", "There", "Gone", "NoDeeds", "NoDeed", "NoText", "NoLine", "NoName",
]
WITH_FIELDS = {
    "TooWide": {"many": 7, "most": 6},
    "TooMany": {"many": 81, "most": 80},
    "Broken": {"number": 3, "one": (0, -1), "other": (0, 5)},
}


def made(name):
    """An error of the class with this name."""
    told = getattr(errors, name)
    return told(*WITH_FIELDS[name].values()) if name in WITH_FIELDS else told("why")


class Errors(unittest.TestCase):
    def test_there_are_seventeen_with_a_text_and_three_with_fields(self):
        told = [name for name in vars(errors) if isinstance(getattr(errors, name), type)]
        self.assertEqual(len(WITH_A_TEXT), 17)
        self.assertEqual(sorted(told), sorted([*WITH_A_TEXT, *WITH_FIELDS, "TableError"]))

    def test_any_refusal_is_a_value_error(self):
        self.assertEqual(TableError.__bases__, (ValueError,))

    def test_each_is_a_table_error_and_none_of_the_others(self):
        names = [*WITH_A_TEXT, *WITH_FIELDS]
        for name in names:
            with self.subTest(name):
                self.assertEqual(getattr(errors, name).__bases__, (TableError,))
                kinds = [other for other in names if isinstance(made(name), getattr(errors, other))]
                self.assertEqual(kinds, [name])
                self.assertIsInstance(made(name), TableError)
                self.assertIsInstance(made(name), ValueError)

    def test_a_text_is_told_again(self):
        for name in ["TableError", *WITH_A_TEXT]:
            with self.subTest(name):
                self.assertEqual(str(made(name)), "why")

    def test_each_can_be_raised_and_caught_by_its_name(self):
        for name in [*WITH_A_TEXT, *WITH_FIELDS]:
            with self.subTest(name), self.assertRaises(getattr(errors, name)):
                raise made(name)

    def test_the_fields_are_what_it_was_made_with(self):
        for name, fields in WITH_FIELDS.items():
            error = made(name)
            for field, value in fields.items():
                with self.subTest(name, field=field):
                    self.assertEqual(getattr(error, field), value)
                    self.assertIs(type(getattr(error, field)), type(value))

    def test_the_fields_are_set_on_the_object_itself(self):
        for name, fields in WITH_FIELDS.items():
            with self.subTest(name):
                self.assertEqual(vars(made(name)), fields)

    def test_fields_of_two_errors_have_nothing_in_common(self):
        one, other = TooMany(81, 80), TooMany(13, 12)
        self.assertEqual((one.many, one.most, other.many, other.most), (81, 80, 13, 12))
        one, other = TooWide(7, 6), TooWide(8, 6)
        self.assertEqual((one.many, one.most, other.many, other.most), (7, 6, 8, 6))
        one, other = Broken(0, (1,), (2,)), Broken(1, (3,), (4,))
        self.assertEqual((one.number, one.one, one.other), (0, (1,), (2,)))
        self.assertEqual((other.number, other.one, other.other), (1, (3,), (4,)))


if __name__ == "__main__":
    unittest.main()

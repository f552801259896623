"""The refusals: their fields, and how they stand to one another [1]."""

import unittest

from glowboard import errors
from glowboard.errors import GlowError

FIELDS = {
    "NoPicture": ("row",),
    "NoTable": (),
    "NoFont": (),
    "NoSign": ("sign", "at"),
    "TooWide": ("word",),
    "NoLine": (),
    "NoSpot": (),
    "OffBoard": ("number",),
    "NoNote": ("row",),
    "NoText": ("at",),
    "NoScene": ("part",),
    "Busy": ("owed",),
    "NoRow": (),
    "NoBoard": (),
    "NoName": (),
}

MANY = 10 ** 60 - 1


def made(name, values):
    return getattr(errors, name)(*values)


def sample(name):
    """A refusal of that name, made of its fields, or of a text where it has none."""
    fields = FIELDS[name]
    return made(name, range(len(fields)) if fields else ("some words",))


class RefusalsTest(unittest.TestCase):

    def test_there_are_fifteen(self):
        self.assertEqual(15, len(FIELDS))
        for name in FIELDS:
            self.assertTrue(issubclass(getattr(errors, name), Exception), name)

    def test_each_has_the_fields_it_is_made_of(self):
        for name, fields in FIELDS.items():
            for values in ((3, 7), (0, 0), (MANY, -MANY)):
                error = made(name, values[:len(fields)] or ("some words",))
                for field, value in zip(fields, values):
                    self.assertEqual(value, getattr(error, field), (name, field))

    def test_fields_may_be_none(self):
        self.assertIsNone(made("NoPicture", (None,)).row)
        self.assertIsNone(made("NoText", (None,)).at)

    def test_sign_comes_ahead_of_at(self):
        for sign in ("a", " ", "~", "{", "'", '"', "\\"):
            error = made("NoSign", (sign, 12))
            self.assertEqual((sign, 12), (error.sign, error.at))

    def test_those_without_fields_are_made_of_any_text(self):
        for name, fields in FIELDS.items():
            if not fields:
                for text in ("", "some words", "{} {0}"):
                    self.assertIsInstance(made(name, (text,)), GlowError)

    def test_each_has_its_fields_when_caught_as_the_base(self):
        for name, fields in FIELDS.items():
            try:
                raise sample(name)
            except GlowError as error:
                self.assertIs(getattr(errors, name), type(error))
                told = [getattr(error, field) for field in fields]
                self.assertEqual(list(range(len(fields))), told)

    def test_the_fields_of_one_are_its_own(self):
        first = made("Busy", (5,))
        second = made("Busy", (9,))
        self.assertEqual((5, 9), (first.owed, second.owed))

    def test_base_is_a_value_error(self):
        self.assertTrue(issubclass(GlowError, ValueError))
        self.assertIsNot(GlowError, ValueError)
        self.assertIsInstance(GlowError("some words"), ValueError)

    def test_each_is_under_the_base_and_under_no_other(self):
        for name in FIELDS:
            error = sample(name)
            self.assertIsInstance(error, GlowError, name)
            self.assertIsInstance(error, ValueError, name)
            for other in FIELDS:
                standing = isinstance(error, getattr(errors, other))
                self.assertEqual(name == other, standing, (name, other))

    def test_words_can_be_told(self):
        for name in FIELDS:
            self.assertIsInstance(str(sample(name)), str)


if __name__ == "__main__":
    unittest.main()

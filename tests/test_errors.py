"""The twelve errors: their fields, and what they are."""

import unittest

from textorlist import errors
from tests.samples import nested

FIELDS = {
    "BadValue": ("place",),
    "NoPlace": ("place",),
    "NoItems": (),
    "NoEntry": ("at",),
    "NotText": ("at",),
    "BadProgram": ("line",),
    "TooMany": ("what",),
    "NoFunction": ("name",),
    "Stopped": ("way", "line"),
    "NoTaker": ("name",),
    "BadFate": ("at",),
    "BadSpot": ("spot",),
}

ANY_VALUES = [
    None, True, False, 0, 1, -1, 7, 10 ** 29, -10 ** 29, "", "a", "some words, (with) signs {}",
    (), (1, 0), (True, None), [], [1, "a"], [[], ()], ([1], [2, [3]]), nested("ab", 13),
]


def made(name, fields):
    return getattr(errors, name)(*fields)


class Errors(unittest.TestCase):
    def test_there_are_twelve(self):
        self.assertEqual(len(FIELDS), 12)
        for name in FIELDS:
            self.assertEqual(getattr(errors, name).__module__, "textorlist.errors")
            self.assertIn(errors.TextorlistError, getattr(errors, name).__bases__)

    def test_base(self):
        self.assertTrue(issubclass(errors.TextorlistError, ValueError))
        for name in FIELDS:
            self.assertFalse(issubclass(errors.TextorlistError, getattr(errors, name)))

    def test_fields_by_position_in_the_order_of_the_document(self):
        for name, fields in FIELDS.items():
            for at, first in enumerate(ANY_VALUES):
                given = [first, ANY_VALUES[at - 1]][:len(fields)]
                error = made(name, given)
                for field, passed in zip(fields, given):
                    kept = getattr(error, field)
                    self.assertEqual(kept, passed)
                    self.assertEqual(repr(kept), repr(passed))

    def test_fields_by_name(self):
        for name, fields in FIELDS.items():
            error = getattr(errors, name)(**{field: f"the {field}" for field in fields})
            for field in fields:
                self.assertEqual(getattr(error, field), f"the {field}")

    def test_two_fields_are_not_mixed_up(self):
        error = errors.Stopped("fail", 3)
        self.assertEqual((error.way, error.line), ("fail", 3))
        error = errors.Stopped(line=4, way="refuse")
        self.assertEqual((error.way, error.line), ("refuse", 4))

    def test_each_is_a_value_error_and_none_of_the_others(self):
        for name, fields in FIELDS.items():
            error = made(name, [0] * len(fields))
            self.assertIsInstance(error, errors.TextorlistError)
            self.assertIsInstance(error, ValueError)
            for other in FIELDS:
                self.assertEqual(isinstance(error, getattr(errors, other)), other == name)

    def test_raised_and_caught(self):
        for name, fields in FIELDS.items():
            for caught in (getattr(errors, name), errors.TextorlistError, ValueError):
                error = made(name, [5] * len(fields))
                with self.assertRaises(caught) as held:
                    raise error
                self.assertIs(held.exception, error)

    def test_messages_can_be_made(self):
        for name, fields in FIELDS.items():
            for thing in ANY_VALUES:
                self.assertIsInstance(str(made(name, [thing] * len(fields))), str)

    def test_fields_are_copied(self):
        for name, fields in FIELDS.items():
            for field in fields:
                passed = [1, [2], ([3],)]
                error = made(name, [passed] * len(fields))
                passed[1].append("later")
                passed[2][0].append("later")
                passed.append("later")
                self.assertEqual(getattr(error, field), [1, [2], ([3],)])


if __name__ == "__main__":
    unittest.main()

"""The refusals: where they stand, and what they are made of."""

import copy
import unittest

from fallgain import errors

FIELDS = {
    "NoHouse": (),
    "Crossing": ("where", "one", "other"),
    "NoSet": (),
    "NoThing": (),
    "NoMany": (),
    "NoPiece": ("at",),
    "Passes": ("where",),
    "NotFull": (),
    "NoFit": (),
    "TooGreat": (),
    "TooFew": (),
    "TooMany": (),
    "NoPrices": (),
    "NothingBack": (),
    "NoText": (),
}


class ErrorsTest(unittest.TestCase):
    def test_gain_error_stands_straight_under_value_error(self):
        self.assertEqual(errors.GainError.__bases__, (ValueError,))

    def test_all_fifteen_stand_straight_under_gain_error(self):
        self.assertEqual(len(FIELDS), 15)
        for name in FIELDS:
            with self.subTest(name):
                self.assertEqual(getattr(errors, name).__bases__, (errors.GainError,))

    def test_there_are_no_others(self):
        names = [name for name in vars(errors) if not name.startswith("_")]
        self.assertEqual(sorted(names), sorted([*FIELDS, "GainError"]))

    def test_fields_are_handed_in_in_this_order(self):
        for name, fields in FIELDS.items():
            with self.subTest(name):
                values = [30 + at for at in range(len(fields))]
                error = getattr(errors, name)(*values)
                self.assertEqual([getattr(error, field) for field in fields], values)
                self.assertEqual(vars(error), dict(zip(fields, values)))

    def test_errors_can_be_copied(self):
        error = copy.copy(errors.Crossing(4, 0, 1))
        self.assertEqual((error.where, error.one, error.other), (4, 0, 1))


if __name__ == "__main__":
    unittest.main()

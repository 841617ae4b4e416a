"""The errors, their kinship and their fields."""

import unittest

from howfar import errors

PLAIN = ["BadWork", "BadName", "BadPaces", "BadTallies", "BadShares", "BadSize", "Unlike", "NoDeed"]
WITH_FIELD = {"BadRun": "place", "BadRows": "row"}


class Errors(unittest.TestCase):
    def test_far_error_is_a_value_error(self):
        self.assertEqual(errors.FarError.__bases__, (ValueError,))

    def test_each_stands_straight_under_far_error(self):
        for name in PLAIN + list(WITH_FIELD):
            with self.subTest(name):
                self.assertEqual(getattr(errors, name).__bases__, (errors.FarError,))

    def test_plain_ones_take_a_text(self):
        for name in PLAIN:
            with self.subTest(name):
                self.assertEqual(str(getattr(errors, name)("why")), "why")

    def test_fields_are_set_when_made(self):
        for name, field in WITH_FIELD.items():
            for number in (0, 7):
                with self.subTest(name, number=number):
                    self.assertEqual(getattr(getattr(errors, name)(number), field), number)
                    self.assertIsInstance(str(getattr(errors, name)(number)), str)


if __name__ == "__main__":
    unittest.main()

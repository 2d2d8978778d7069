"""The refusals, as the interface lists them."""

import unittest

from muchalike import errors

REFUSALS = (
    "NoKind", "NoShare", "NoSet", "NoWeight", "NoOrder", "NoParts",
    "NoWay", "NoName", "NoSize", "NoText", "NoRow", "NoNumber",
)


class Refusals(unittest.TestCase):

    def test_any_refusal_is_a_value_error(self):
        self.assertEqual((ValueError,), errors.LikeError.__bases__)

    def test_twelve_stand_straight_under_it(self):
        for name in REFUSALS:
            with self.subTest(name):
                self.assertEqual((errors.LikeError,), getattr(errors, name).__bases__)

    def test_no_class_is_another_one(self):
        self.assertEqual(12, len({getattr(errors, name) for name in REFUSALS}))

    def test_each_is_defined_in_its_file_under_its_name(self):
        for name in ("LikeError",) + REFUSALS:
            with self.subTest(name):
                refusal = getattr(errors, name)
                self.assertEqual(("muchalike.errors", name), (refusal.__module__, refusal.__name__))

    def test_each_can_be_raised_and_caught_as_a_refusal(self):
        for name in REFUSALS:
            with self.subTest(name), self.assertRaises(errors.LikeError):
                raise getattr(errors, name)("why")


if __name__ == "__main__":
    unittest.main()

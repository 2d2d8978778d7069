"""The names, arguments and files that the interface lists."""

import inspect
import unittest

from muchalike import sets, shares

LISTED = (
    (shares, "share_of", ["kind", "a", "b", "c"]),
    (shares, "need", ["kind", "least", "a", "b"]),
    (shares, "mates", ["kind", "least", "a"]),
    (shares, "least_need", ["kind", "least", "a"]),
    (sets, "check_lot", ["lot", "weights"]),
    (sets, "weight", ["words", "weights"]),
    (sets, "common", ["one", "other", "weights"]),
    (sets, "plain_pairs", ["kind", "least", "lot", "weights"]),
)


class Interface(unittest.TestCase):

    def test_each_takes_the_arguments_that_are_listed(self):
        for module, name, arguments in LISTED:
            with self.subTest(name):
                signature = inspect.signature(getattr(module, name))
                self.assertEqual(arguments, list(signature.parameters))

    def test_each_is_a_function_defined_in_its_own_file(self):
        for module, name, _ in LISTED:
            with self.subTest(name):
                self.assertTrue(inspect.isfunction(getattr(module, name)))
                self.assertEqual(module.__name__, getattr(module, name).__module__)

    def test_arguments_may_be_handed_in_by_their_names(self):
        self.assertEqual((1, 3), shares.share_of(kind="both", a=2, b=2, c=1))
        self.assertEqual(2, shares.need(kind="both", least=(1, 2), a=2, b=3))
        self.assertEqual((1, 4), shares.mates(kind="both", least=(1, 2), a=2))
        self.assertEqual(1, shares.least_need(kind="both", least=(1, 2), a=2))
        self.assertIsNone(sets.check_lot(lot=[["a"]], weights={"a": 2}))
        self.assertEqual(2, sets.weight(words=["a"], weights={"a": 2}))
        self.assertEqual((["a"], 2), sets.common(one=["a"], other=["a"], weights={"a": 2}))
        pairs = sets.plain_pairs(kind="both", least=(1, 1), lot=[["a"], ["a"]], weights={})
        self.assertEqual([(0, 1, (1, 1))], pairs)


if __name__ == "__main__":
    unittest.main()

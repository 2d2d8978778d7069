"""The steps of a lot: points 2, 5, 23 and 37."""

import unittest
from copy import deepcopy
from fractions import Fraction
from itertools import combinations, permutations

import plainly
from muchalike.errors import NoKind, NoSet, NoWeight
from muchalike.steps import steps
from plainly import KINDS, some_lots

LOT = [["a", "b", "c"], ["b", "c", "d"], [], ["a", "b", "c"], ["e"], ["d"]]


def plain_steps(kind, lot, weights):
    """Tell the steps by merging the groups of each pair, pair by pair."""
    shares = {
        (i, j): plainly.share(kind, lot[i], lot[j], weights) for i, j in combinations(range(len(lot)), 2)
    }
    told = []
    for least in sorted({share for share in shares.values() if share > 0}, reverse=True):
        group = list(range(len(lot)))
        pairs = [pair for pair in shares if shares[pair] >= least]
        for i, j in pairs:
            group = [group[i] if number == group[j] else number for number in group]
        told.append(((least.numerator, least.denominator), len(pairs), len(set(group))))
    return told


class Steps(unittest.TestCase):

    def test_the_greatest_share_first(self):
        self.assertEqual([((1, 1), 1, 5), ((1, 2), 3, 4), ((1, 3), 4, 3)], steps("both", LOT, {}))
        self.assertEqual([((1, 1), 2, 4), ((2, 3), 4, 3)], steps("lesser", LOT, {}))

    def test_no_two_sets_with_something_in_common(self):
        for lot in ([], [[]], [["a"]], [[], []], [["a"], ["b"], []]):
            for kind in KINDS:
                self.assertEqual([], steps(kind, lot, {}))

    def test_like_sets(self):
        for kind in KINDS:
            self.assertEqual([((1, 1), 3, 1)], steps(kind, [["a", "b"], ["b", "a"], ["a", "b"]], {}))
            self.assertEqual([((1, 1), 1, 2)], steps(kind, [["a"], [], ["a"]], {}))

    def test_by_weights(self):
        lot = [["a", "b"], ["a"], ["b"]]
        self.assertEqual([((1, 2), 2, 1)], steps("both", lot, {}))
        self.assertEqual([((2, 3), 1, 2), ((1, 3), 2, 1)], steps("both", lot, {"a": 2}))
        self.assertEqual([((1, 2), 2, 1)], steps("both", lot, {"c": 2}))

    def test_shares_that_are_just_unlike(self):
        lot = [["a", "b"], ["a", "x"], ["a", "y"]]
        weights = {"a": 10 ** 6, "b": 10 ** 6, "x": 10 ** 6, "y": 10 ** 6 - 1}
        for kind in KINDS:
            self.assertEqual(plain_steps(kind, lot, weights), steps(kind, lot, weights))

    def test_some_lots(self):
        for lot, weights, _, _ in some_lots(80):
            for kind in KINDS:
                self.assertEqual(plain_steps(kind, lot, weights), steps(kind, lot, weights))

    def test_a_great_lot(self):
        lot = [[f"w{number}" for number in range(first, first + 60)] for first in range(40)]
        weights = {f"w{number}": 10 ** 6 - number * number for number in range(100)}
        told = steps("square", lot, weights)
        self.assertEqual(plain_steps("square", lot, weights), told)
        self.assertEqual((780, 1), told[-1][1:])

    def test_kinds_of_what_is_told(self):
        for step in steps("mean", LOT, {"b": 3}):
            share, pairs, many = step
            self.assertIs(tuple, type(step))
            self.assertIs(tuple, type(share))
            self.assertEqual([int] * 4, [type(number) for number in share + (pairs, many)])
            self.assertEqual(share, Fraction(*share).as_integer_ratio())


class Refused(unittest.TestCase):

    def test_refused_by_its_class_and_in_turn(self):
        for refusal, kind, lot, weights in (
            (NoKind, "no", [["A"]], {"a": 0}), (NoKind, "", [], {}), (NoKind, "all", [["a"]], {}),
            (NoSet, "both", [["A"]], {"a": 0}), (NoSet, "both", [["a"], ["b", "b"]], {}), (NoSet, "mean", [[""]], {}),
            (NoWeight, "both", [["a"]], {"a": 0}), (NoWeight, "both", [], {"": 1}),
            (NoWeight, "both", [["a"]], {"b": -1}),
        ):
            with self.subTest(kind=kind, lot=lot, weights=weights):
                with self.assertRaises(refusal):
                    steps(kind, lot, weights)


class HandedIn(unittest.TestCase):

    def test_nothing_is_changed_and_what_is_told_is_new(self):
        lot, weights = deepcopy(LOT), {"b": 3, "a": 2}
        told, expected = steps("both", lot, weights), steps("both", lot, weights)
        self.assertEqual((LOT, ["b", "a"]), (lot, list(weights)))
        told.clear()
        self.assertEqual(expected, steps("both", lot, weights))
        lot[0].clear()
        weights["a"] = 9
        self.assertEqual(steps("both", LOT, {"a": 2, "b": 3}), expected)

    def test_nothing_hangs_on_the_order_of_words_or_weights(self):
        for words in permutations(LOT[0]):
            lot = [list(words)] + LOT[1:]
            self.assertEqual(steps("both", LOT, {"a": 2, "b": 3}), steps("both", lot, {"b": 3, "a": 2}))


if __name__ == "__main__":
    unittest.main()

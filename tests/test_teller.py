"""Pairs told one by one, the most alike first: points 2, 4, 7, 8 and 21."""

import unittest
from copy import deepcopy
from itertools import combinations, permutations

import plainly
from muchalike.errors import NoKind, NoSet, NoWeight
from muchalike.sets import plain_pairs
from muchalike.teller import Teller
from plainly import KINDS, some_lots

LOT = [["a", "b", "c"], ["b", "c", "d"], [], ["c"], ["e", "f"], ["b", "c"], ["c"]]


def told_in_turn(kind, lot, weights):
    """Tell all pairs with something in common, the most alike first, like ones by their numbers."""
    shares = [(plainly.share(kind, lot[i], lot[j], weights), i, j) for i, j in combinations(range(len(lot)), 2)]
    turned = sorted((-share, i, j) for share, i, j in shares if share > 0)
    return [plainly.pair_of(i, j, -share) for share, i, j in turned]


def held_for(kind, lot, weights, last):
    """Tell the pairs of sets with words that may share as much as was told last, or all for None."""
    pairs = []
    for i, j in combinations(range(len(lot)), 2):
        a, b = plainly.weigh(lot[i], weights), plainly.weigh(lot[j], weights)
        if a > 0 and b > 0:
            may = plainly.fraction(kind, a, b, min(a, b))
            # Held against the share that was told, without a rounded number on the way.
            if last is None or may.numerator * last[1] >= last[0] * may.denominator:
                pairs.append((i, j))
    return pairs


class Told(unittest.TestCase):

    def test_one_lot(self):
        teller = Teller("both", LOT, {})
        self.assertEqual([], teller.held())
        self.assertEqual((3, 6, (1, 1)), teller.tell())
        # Only sets of like weight may share all.
        self.assertEqual([(0, 1), (3, 6), (4, 5)], teller.held())
        self.assertEqual((0, 5, (2, 3)), teller.tell())
        expected = [(0, 1), (0, 4), (0, 5), (1, 4), (1, 5), (3, 6), (4, 5)]
        self.assertEqual(expected, teller.held())
        self.assertEqual((1, 5, (2, 3)), teller.tell())
        self.assertEqual(expected, teller.held())
        told = [teller.tell() for _ in range(8)]
        self.assertEqual(
            [
                (0, 1, (1, 2)), (3, 5, (1, 2)), (5, 6, (1, 2)),
                (0, 3, (1, 3)), (0, 6, (1, 3)), (1, 3, (1, 3)), (1, 6, (1, 3)), None,
            ],
            told,
        )
        self.assertEqual([pair for pair in combinations(range(7), 2) if 2 not in pair], teller.held())

    def test_some_lots(self):
        seen = 0
        for lot, weights, _, _ in some_lots(120):
            for kind in KINDS:
                teller = Teller(kind, lot, weights)
                self.assertEqual([], teller.held())
                for pair in told_in_turn(kind, lot, weights):
                    self.assertEqual(pair, teller.tell())
                    self.assertEqual(held_for(kind, lot, weights, pair[2]), teller.held())
                    seen += 1
                for _ in range(3):
                    self.assertIsNone(teller.tell())
                    self.assertEqual(held_for(kind, lot, weights, None), teller.held())
        self.assertGreater(seen, 3000)

    def test_each_next_is_the_most_alike_of_those_that_are_left(self):
        for lot, weights, _, _ in some_lots(30):
            for kind in KINDS:
                teller = Teller(kind, lot, weights)
                left = plain_pairs(kind, (1, 10 ** 20 - 1), lot, weights)
                while (pair := teller.tell()) is not None:
                    left.remove(pair)
                    top, bottom = pair[2]
                    self.assertTrue(all(top * share[1] >= share[0] * bottom for _, _, share in left))
                self.assertEqual([], left)

    def test_like_shares_by_their_numbers(self):
        lot = [["a", "x"], ["b", "y"], ["a", "y"], ["b", "x"]]
        teller = Teller("both", lot, {})
        expected = [(0, 2, (1, 3)), (0, 3, (1, 3)), (1, 2, (1, 3)), (1, 3, (1, 3)), None]
        self.assertEqual(expected, [teller.tell() for _ in range(5)])
        teller = Teller("lesser", [["a", "b", "c"], ["c"], ["b", "c"], ["a"]], {})
        expected = [(0, 1, (1, 1)), (0, 2, (1, 1)), (0, 3, (1, 1)), (1, 2, (1, 1)), None]
        self.assertEqual(expected, [teller.tell() for _ in range(5)])

    def test_of_empty_lots_and_sets_without_words_nothing_is_told_or_held(self):
        for kind in KINDS:
            for lot in ([], [[]], [[], []], [["a"]], [["a"], []], [[], ["a", "b"], [], []]):
                teller = Teller(kind, lot, {"a": 3})
                self.assertEqual([], teller.held())
                for _ in range(3):
                    self.assertIsNone(teller.tell())
                    self.assertEqual([], teller.held())

    def test_sets_with_nothing_in_common_are_never_told_but_held_at_the_end(self):
        teller = Teller("both", [["a"], ["b"], [], ["c", "d"]], {})
        self.assertEqual([], teller.held())
        for _ in range(3):
            self.assertIsNone(teller.tell())
            self.assertEqual([(0, 1), (0, 3), (1, 3)], teller.held())

    def test_a_list_at_two_places(self):
        words = ["a", "b"]
        teller = Teller("mean", [words, words, []], {"a": 2})
        self.assertEqual([(0, 1, (1, 1)), None], [teller.tell(), teller.tell()])

    def test_shares_that_are_all_but_alike(self):
        # Weights near a million, sixty words: the shares differ far behind the point.
        lot = [[f"w{at:02d}" for at in range(first, first + 60)] for first in range(0, 40)]
        weights = {f"w{at:02d}": 10 ** 6 - (at * at * 7919 - at) // 13 % 5 for at in range(99)}
        for kind in KINDS:
            teller = Teller(kind, lot, weights)
            expected = told_in_turn(kind, lot, weights)
            for at, pair in enumerate(expected):
                self.assertEqual(pair, teller.tell())
                if at % 60 == 0:
                    self.assertEqual(held_for(kind, lot, weights, pair[2]), teller.held())
            self.assertIsNone(teller.tell())
            self.assertEqual(780, len(teller.held()))

    def test_shares_nearer_than_any_weight_tells(self):
        # 1000 * 1000 * 999998 is 1 below 1001 * 1001 * 998001: by "square" the latter goes ahead.
        lot = [["p", "q"], ["p", "r"], ["q", "s"]]
        weights = {"p": 1000, "q": 1001, "r": 998001 - 1000, "s": 999998 - 1001}
        teller = Teller("square", lot, weights)
        expected = told_in_turn("square", lot, weights)
        self.assertEqual([(0, 2), (0, 1)], [pair[:2] for pair in expected])
        self.assertEqual(expected + [None], [teller.tell() for _ in range(3)])

    def test_a_pair_that_may_share_just_as_much_is_held(self):
        # By their weights 2 and 4 may share a half, just what the first two share.
        lot = [["a", "b", "c"], ["a", "b", "d"], ["e", "f", "g", "h"], ["i", "j"], ["k"]]
        teller = Teller("both", lot, {})
        self.assertEqual((0, 1, (1, 2)), teller.tell())
        self.assertEqual([(0, 1), (0, 2), (0, 3), (1, 2), (1, 3), (2, 3), (3, 4)], teller.held())

    def test_kinds_of_what_is_told(self):
        teller = Teller("both", LOT, {})
        i, j, share = teller.tell()
        self.assertEqual([int] * 4 + [tuple], [type(thing) for thing in (i, j) + share + (share,)])
        self.assertIs(list, type(teller.held()))
        for pair in teller.held():
            self.assertEqual([tuple, int, int], [type(pair)] + [type(number) for number in pair])


class Refused(unittest.TestCase):

    def test_in_turn(self):
        for refusal, kind, lot, weights in (
            (NoKind, "no", [["A"]], {"a": 0}),
            (NoKind, "no", LOT, {}),
            (NoKind, "", [], {}),
            (NoKind, "no", LOT, {"a": 0}),
            (NoSet, "both", [["A"]], {"a": 0}),
            (NoSet, "both", [["a"], ["b", "b"]], {"": 1}),
            (NoSet, "both", [["x" * 31]], {}),
            (NoWeight, "both", LOT, {"a": 0}),
            (NoWeight, "both", [], {"": 1}),
        ):
            with self.subTest(kind=kind, lot=lot, weights=weights), self.assertRaises(refusal):
                Teller(kind, lot, weights)


class HandedIn(unittest.TestCase):

    def all_of(self, teller):
        told = []
        while (pair := teller.tell()) is not None:
            told.append((pair, teller.held()))
        return told

    def test_nothing_is_changed(self):
        lot, weights = deepcopy(LOT), {"c": 3, "b": 2}
        self.all_of(Teller("mean", lot, weights))
        self.assertEqual((LOT, ["c", "b"], [3, 2]), (lot, list(weights), list(weights.values())))

    def test_what_is_done_later_changes_nothing(self):
        expected = self.all_of(Teller("mean", LOT, {"c": 3}))
        for asked in (0, 1, 3):
            lot, weights = deepcopy(LOT), {"c": 3}
            teller = Teller("mean", lot, weights)
            told = [(teller.tell(), teller.held()) for _ in range(asked)]
            lot[0].clear()
            lot[1].append("z")
            lot[3][0] = "b"
            del lot[4:]
            weights["c"] = 100
            weights["b"] = 7
            self.assertEqual(expected, told + self.all_of(teller))

    def test_what_is_told_is_the_askers_own(self):
        expected = self.all_of(Teller("both", LOT, {}))
        teller = Teller("both", LOT, {})
        teller.held().append((0, 1))
        told = []
        while (pair := teller.tell()) is not None:
            told.append((pair, teller.held()))
            mine = teller.held()
            mine.append((9, 9))
            mine[0] = None
            teller.held().clear()
        self.assertEqual(expected, told)

    def test_asking_what_is_held_changes_nothing(self):
        teller, other = Teller("both", LOT, {}), Teller("both", LOT, {})
        for _ in range(12):
            teller.held()
            self.assertEqual(other.tell(), teller.tell())

    def test_two_tellers_share_nothing(self):
        lot, weights = deepcopy(LOT), {}
        one, other = Teller("both", lot, weights), Teller("both", lot, weights)
        expected = self.all_of(one)
        self.assertEqual([], other.held())
        self.assertEqual(expected, self.all_of(other))

    def test_nothing_hangs_on_the_order_of_words_or_weights(self):
        expected = self.all_of(Teller("square", LOT, {"a": 2, "b": 3}))
        for words in permutations(LOT[0]):
            self.assertEqual(expected, self.all_of(Teller("square", [list(words)] + LOT[1:], {"b": 3, "a": 2})))


if __name__ == "__main__":
    unittest.main()

"""The nearest of a set, and friends: points 2, 4, 5, 21 and 36."""

import unittest
from copy import deepcopy
from fractions import Fraction
from itertools import permutations

import plainly
from muchalike.errors import NoKind, NoNumber, NoSet, NoSize, NoWeight
from muchalike.nearest import friends, nearest
from plainly import KINDS, some_lots

LOT = [["a", "b", "c"], ["b", "c", "d"], [], ["a", "b", "c"], ["e"], ["a"]]


def fraction_of(share):
    return Fraction(*share)


def others_of(kind, lot, weights, i):
    """Tell all others with a share above 0, by looking for the most alike one again and again."""
    left = {}
    for j, words in enumerate(lot):
        share = plainly.share(kind, lot[i], words, weights)
        if j != i and share > 0:
            left[j] = share
    told = []
    while left:
        best = min(j for j in left if left[j] == max(left.values()))
        told.append(plainly.pair_of(best, best, left.pop(best))[1:])
    return told


def held_for(kind, lot, weights, i, told, many):
    held = []
    for j, words in enumerate(lot):
        if j == i or not words or not lot[i]:
            continue
        a, b = plainly.weigh(lot[i], weights), plainly.weigh(words, weights)
        if len(told) < many or plainly.fraction(kind, a, b, min(a, b)) >= fraction_of(told[-1][1]):
            held.append(j)
    return held


def plain_friends(kind, lot, weights):
    firsts = [others_of(kind, lot, weights, i)[:1] for i in range(len(lot))]
    return [
        (i, j, share) for i, first in enumerate(firsts) for j, share in first
        if i < j and [number for number, _ in firsts[j]] == [i]
    ]


class Nearest(unittest.TestCase):

    def test_the_most_alike_first_of_like_ones_the_lesser_number(self):
        told = [(3, (1, 1)), (1, (1, 2)), (5, (1, 3))]
        self.assertEqual((told, [1, 3, 4, 5]), nearest("both", LOT, {}, 0, 4))
        self.assertEqual((told, [1, 3, 4, 5]), nearest("both", LOT, {}, 0, 3))
        self.assertEqual((told[:2], [1, 3]), nearest("both", LOT, {}, 0, 2))
        self.assertEqual((told[:1], [1, 3]), nearest("both", LOT, {}, 0, 1))
        self.assertEqual(([(0, (1, 2)), (3, (1, 2))], [0, 3, 4, 5]), nearest("both", LOT, {}, 1, 3))
        self.assertEqual(([(0, (1, 2))], [0, 3]), nearest("both", LOT, {}, 1, 1))

    def test_fewer_than_were_asked_for(self):
        for many in (1, 2, 40, 10 ** 30):
            self.assertEqual(([], [0, 1, 3, 5]), nearest("both", LOT, {}, 4, many))
            self.assertEqual(([], []), nearest("both", LOT, {}, 2, many))
            self.assertEqual(([], []), nearest("both", [["a"]], {}, 0, many))
            self.assertEqual(([], []), nearest("both", [["a"], []], {}, 0, many))
            self.assertEqual(([], [1]), nearest("both", [["a"], ["b"]], {}, 0, many))

    def test_what_may_share_just_as_much_is_held(self):
        lot = [["a", "b"], ["a", "b", "c", "d"], ["x"], ["x", "y", "z", "u"], ["v", "w", "x", "y", "z"]]
        self.assertEqual(([(1, (1, 2))], [1, 2, 3]), nearest("both", lot, {}, 0, 1))

    def test_by_weights(self):
        lot = [["a", "b"], ["a"], ["b"]]
        self.assertEqual([(1, (2, 3)), (2, (1, 3))], nearest("both", lot, {"a": 2}, 0, 2)[0])
        self.assertEqual([(2, (5, 6)), (1, (1, 6))], nearest("both", lot, {"b": 5}, 0, 2)[0])
        self.assertEqual([(1, (1, 2)), (2, (1, 2))], nearest("both", lot, {"c": 5}, 0, 2)[0])

    def test_shares_that_are_just_unlike(self):
        lot = [["a", "b"], ["a", "x"], ["a", "y"]]
        weights = {"a": 10 ** 6, "b": 10 ** 6, "x": 10 ** 6, "y": 10 ** 6 - 1}
        for kind in ("both", "mean", "square"):
            self.assertEqual([2, 1], [j for j, _ in nearest(kind, lot, weights, 0, 2)[0]])

    def test_some_lots(self):
        for lot, weights, _, _ in some_lots(40):
            for kind in KINDS:
                for i in range(len(lot)):
                    expected = others_of(kind, lot, weights, i)
                    for many in (1, 2, 3, len(lot) + 1):
                        told = expected[:many]
                        held = held_for(kind, lot, weights, i, told, many)
                        self.assertEqual((told, held), nearest(kind, lot, weights, i, many))
                        self.assertLessEqual({j for j, _ in told}, set(held))

    def test_a_great_lot(self):
        lot = [[f"w{number}" for number in range(first, first + 60)] for first in range(40)]
        weights = {f"w{number}": 10 ** 6 - number * number for number in range(100)}
        for kind in KINDS:
            expected = others_of(kind, lot, weights, 20)
            self.assertEqual(expected[:7], nearest(kind, lot, weights, 20, 7)[0])
            self.assertEqual(plain_friends(kind, lot, weights), friends(kind, lot, weights))


class Friends(unittest.TestCase):

    def test_each_is_the_others_first_nearest(self):
        self.assertEqual([(0, 3, (1, 1))], friends("both", LOT, {}))
        lot = [["a", "b"], ["c", "d"], ["b"], ["d", "c", "a"], []]
        self.assertEqual([(0, 2, (1, 2)), (1, 3, (2, 3))], friends("both", lot, {}))

    def test_of_like_ones_the_first_one_alone(self):
        self.assertEqual([(0, 1, (1, 1))], friends("both", [["a"], ["a"], ["a"]], {}))
        self.assertEqual([(0, 1, (1, 2))], friends("both", [["a", "b"], ["a"], ["b"]], {}))

    def test_without_any(self):
        for lot in ([], [[]], [["a"]], [[], []], [["a"], ["b"]], [["a"], []]):
            for kind in KINDS:
                self.assertEqual([], friends(kind, lot, {}))

    def test_some_lots(self):
        seen = 0
        for lot, weights, _, _ in some_lots(60):
            for kind in KINDS:
                expected = plain_friends(kind, lot, weights)
                self.assertEqual(expected, friends(kind, lot, weights))
                seen += len(expected)
        self.assertGreater(seen, 100)


class Refused(unittest.TestCase):

    REFUSED = (
        (NoKind, "no", [["A"]], {"a": 0}, 7, 0),
        (NoKind, "", [], {}, 0, 1),
        (NoKind, "BOTH", [["a"]], {}, 0, 1),
        (NoSet, "both", [["A"]], {"a": 0}, 7, 0),
        (NoSet, "both", [["a"], ["b", "b"]], {}, 0, 1),
        (NoWeight, "both", [["a"]], {"a": 0}, 7, 0),
        (NoWeight, "both", [], {"": 1}, 0, 1),
        (NoWeight, "both", [["a"]], {"b": -1}, 0, 1),
    )
    REFUSED_NUMBERS = (
        (NoNumber, 2, 1), (NoNumber, -1, 1), (NoNumber, -2, 1), (NoNumber, 10 ** 30, 1), (NoNumber, 2, 0),
        (NoNumber, -1, -1), (NoSize, 0, 0), (NoSize, 1, -1), (NoSize, 1, -10 ** 30),
    )

    def test_refused_by_its_class_and_in_turn(self):
        for refusal, kind, lot, weights, i, many in self.REFUSED:
            with self.subTest(kind=kind, lot=lot, weights=weights):
                with self.assertRaises(refusal):
                    nearest(kind, lot, weights, i, many)
                with self.assertRaises(refusal):
                    friends(kind, lot, weights)

    def test_numbers_behind_them(self):
        for refusal, i, many in self.REFUSED_NUMBERS:
            with self.subTest(i=i, many=many):
                with self.assertRaises(refusal):
                    nearest("both", [["a"], []], {}, i, many)
        for many in (1, 0):
            with self.assertRaises(NoNumber):
                nearest("both", [], {}, 0, many)


class HandedIn(unittest.TestCase):

    def test_nothing_is_changed_and_what_is_told_is_new(self):
        weights = {"b": 3, "a": 2}
        for asked in (
            lambda lot, given: nearest("mean", lot, given, 0, 2), lambda lot, given: friends("mean", lot, given),
        ):
            lot, given = deepcopy(LOT), dict(weights)
            told, expected = asked(lot, given), asked(lot, given)
            self.assertEqual((LOT, ["b", "a"]), (lot, list(given)))
            for part in told if isinstance(told, tuple) else [told]:
                part.clear()
            self.assertEqual(expected, asked(lot, given))
            lot[0].clear()
            given["c"] = 9
            self.assertEqual(asked(LOT, weights), expected)

    def test_nothing_hangs_on_the_order_of_words_or_weights(self):
        for words in permutations(LOT[0]):
            lot = [list(words)] + LOT[1:]
            self.assertEqual(nearest("both", LOT, {"a": 2, "b": 3}, 1, 2), nearest("both", lot, {"b": 3, "a": 2}, 1, 2))
            self.assertEqual(friends("both", LOT, {"a": 2, "b": 3}), friends("both", lot, {"b": 3, "a": 2}))


if __name__ == "__main__":
    unittest.main()

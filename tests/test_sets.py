"""Words, sets, lots and weights, and the pairs of a lot: points 2, 4 and 8 to 10."""

import unittest
from copy import deepcopy
from itertools import combinations, permutations

from muchalike.errors import NoKind, NoSet, NoShare, NoWeight
from muchalike.sets import check_lot, common, plain_pairs, weight
from plainly import KINDS, LEASTS, alike

GOOD_WORDS = (
    "a", "z", "0", "9", ".", "..", "a.1", "abc", "007",
    "abcdefghijklmnopqrstuvwxyz.123", "0123456789.", "x" * 30, "." * 30,
)
NO_WORDS = (
    "", " ", "A", "Z", "a b", " a", "a ", "a-b", "a_b", "a/b", "-", "a,", "a\n", "\n",
    "`", "{", ":", "~", "a:", "aB", "x" * 31, "." * 31, "x" * 1000,
)
LOT = [["a", "b", "c"], ["c", "b", "d"], [], ["a", "b", "c"], ["c"], [], ["e", "f"]]
WEIGHTS = {"a": 3, "b": 1, "c": 5, "e": 10 ** 6, "unseen": 4}


def all_small_sets():
    words = ["a", "b", "c", "d"]
    return [list(some) for size in range(5) for some in combinations(words, size)]


class GoodLots(unittest.TestCase):

    def test_nothing_is_told_of_good_ones(self):
        for lot, weights in (
            ([], {}),
            ([[]], {}),
            ([[], []], {"a": 1}),
            ([["a"], ["a"]], {}),
            (LOT, WEIGHTS),
            ([["b", "a"], ["a", "b"]], {"a": 1, "b": 10 ** 6}),
        ):
            with self.subTest(lot=lot):
                self.assertIsNone(check_lot(lot, weights))

    def test_each_word_is_taken(self):
        for word in GOOD_WORDS:
            with self.subTest(word):
                self.assertIsNone(check_lot([[word]], {}))
                self.assertIsNone(check_lot([], {word: 1}))

    def test_one_list_may_be_handed_in_twice(self):
        words = ["a", "b"]
        self.assertIsNone(check_lot([words, words], {}))

    def test_nothing_beyond_the_bounds_is_refused_but_what_is_told(self):
        words = [f"w{number}" for number in range(61)]
        self.assertIsNone(check_lot([words] * 41, {"w1": 10 ** 6 + 1}))


class RefusedLots(unittest.TestCase):

    def test_what_is_no_word_is_refused(self):
        for word in NO_WORDS:
            for lot in ([[word]], [["a", word]], [[word, "a"]], [["a"], [], ["b", word]]):
                with self.subTest(lot=lot), self.assertRaises(NoSet):
                    check_lot(lot, {})

    def test_a_word_twice_in_one_list_is_refused(self):
        for lot in ([["a", "a"]], [["a", "b", "a"]], [["a"], ["b", "c", "c"]]):
            with self.subTest(lot=lot), self.assertRaises(NoSet):
                check_lot(lot, {})

    def test_weights_of_what_is_no_word_are_refused(self):
        for word in NO_WORDS:
            for weights in ({word: 1}, {"a": 2, word: 3}, {word: 3, "a": 2}):
                with self.subTest(weights=weights), self.assertRaises(NoWeight):
                    check_lot([["a"]], weights)

    def test_numbers_below_1_are_refused(self):
        for number in (0, -1, -10 ** 6):
            for weights in ({"a": number}, {"b": 1, "unseen": number}):
                with self.subTest(weights=weights), self.assertRaises(NoWeight):
                    check_lot([["a"]], weights)

    def test_no_set_goes_ahead_of_no_weight(self):
        for lot in ([["A"]], [["a", "a"]], [["a"], ["b", ""]]):
            for weights in ({"": 1}, {"a": 0}):
                with self.subTest(lot=lot, weights=weights), self.assertRaises(NoSet):
                    check_lot(lot, weights)


class Weights(unittest.TestCase):

    def test_words_weigh_together(self):
        self.assertEqual(9, weight(["a", "b", "c"], WEIGHTS))

    def test_a_word_that_is_not_in_the_weights_weighs_1(self):
        self.assertEqual(6, weight(["x", "c"], WEIGHTS))
        self.assertEqual(3, weight(["x", "y", "z"], {}))

    def test_an_empty_set_weighs_0(self):
        for weights in ({}, WEIGHTS):
            told = weight([], weights)
            self.assertEqual(0, told)
            self.assertIs(int, type(told))

    def test_great_sets(self):
        words = [f"w{number}" for number in range(60)]
        self.assertEqual(60 * 10 ** 6, weight(words, {word: 10 ** 6 for word in words}))


class Common(unittest.TestCase):

    def test_words_of_both_and_their_weight(self):
        self.assertEqual((["b", "c"], 6), common(["a", "b", "c"], ["c", "b", "d"], WEIGHTS))

    def test_words_stand_in_the_order_of_texts(self):
        words = ["z", "b10", "a.2", "a.10", "9", ".", "a", "b9"]
        expected = [".", "9", "a", "a.10", "a.2", "b10", "b9", "z"]
        self.assertEqual((expected, 8), common(words, words[::-1], {}))

    def test_nothing_in_common(self):
        for one, other in (([], []), (["a"], []), ([], ["a"]), (["a"], ["b"])):
            self.assertEqual(([], 0), common(one, other, {"a": 7}))

    def test_like_sets_have_all_in_common(self):
        self.assertEqual((["a", "c"], 8), common(["c", "a"], ["a", "c"], WEIGHTS))

    def test_all_small_sets(self):
        for one in all_small_sets():
            for other in all_small_sets():
                words = [word for word in one if word in other]
                expected = (words, sum(WEIGHTS.get(word, 1) for word in words))
                self.assertEqual(expected, common(one[::-1], other, WEIGHTS))

    def test_told_is_a_tuple_with_a_list_and_a_whole_number(self):
        told = common([], [], {})
        self.assertEqual([tuple, list, int], [type(told), type(told[0]), type(told[1])])

    def test_the_list_is_the_askers_own(self):
        words = ["a", "b"]
        told = common(words, words, {})
        again = common(words, words, {})
        told[0].append("more")
        self.assertEqual(["a", "b"], words)
        self.assertEqual((["a", "b"], 2), again)
        self.assertEqual((["a", "b"], 2), common(words, words, {}))


class Pairs(unittest.TestCase):

    def test_pairs_of_one_lot(self):
        self.assertEqual(
            [(0, 1, (3, 5)), (0, 3, (1, 1)), (0, 4, (5, 9)), (1, 3, (3, 5)), (1, 4, (5, 7)), (3, 4, (5, 9))],
            plain_pairs("both", (1, 2), LOT, WEIGHTS),
        )

    def test_the_least_share_itself_is_enough(self):
        lot = [["a", "b"], ["b", "c"]]
        self.assertEqual([(0, 1, (1, 3))], plain_pairs("both", (1, 3), lot, {}))
        self.assertEqual([], plain_pairs("both", (334, 999), lot, {}))
        self.assertEqual([], plain_pairs("both", (10 ** 19 + 1, 3 * 10 ** 19 + 2), lot, {}))

    def test_all_pairs_of_all_small_sets_and_no_others(self):
        lot = all_small_sets() + [[], ["d", "b"], ["x", "a"]]
        for kind in KINDS:
            for least in LEASTS:
                for weights in ({}, WEIGHTS, {"a": 2, "b": 7, "c": 10 ** 6, "d": 1}):
                    expected = alike(kind, least, lot, weights)
                    self.assertEqual(expected, plain_pairs(kind, least, lot, weights), (kind, least))

    def test_empty_sets_are_alike_to_none(self):
        for kind in KINDS:
            for lot in ([], [[]], [[], []], [["a"]], [[], ["a"], []]):
                self.assertEqual([], plain_pairs(kind, (1, 10 ** 20 - 1), lot, {}))

    def test_like_sets_are_alike_by_share_1(self):
        lot = [["a", "b"], ["c"], ["b", "a"], ["a"]]
        for kind in ("both", "mean", "greater", "square"):
            self.assertEqual([(0, 2, (1, 1))], plain_pairs(kind, (1, 1), lot, WEIGHTS))
        expected = [(0, 2, (1, 1)), (0, 3, (1, 1)), (2, 3, (1, 1))]
        self.assertEqual(expected, plain_pairs("lesser", (1, 1), lot, WEIGHTS))

    def test_one_list_may_stand_twice_in_a_lot(self):
        words = ["b", "a"]
        self.assertEqual([(0, 1, (1, 1))], plain_pairs("both", (1, 1), [words, words], {}))

    def test_a_great_lot(self):
        lot = [[f"w{number}" for number in range(first, first + 60)] for first in range(40)]
        weights = {f"w{number}": 10 ** 6 - number for number in range(100)}
        for kind in KINDS:
            expected = alike(kind, (3, 4), lot, weights)
            self.assertEqual(expected, plain_pairs(kind, (3, 4), lot, weights))

    def test_kinds_of_what_is_told(self):
        for pair in plain_pairs("both", (1, 2), LOT, WEIGHTS):
            self.assertIs(tuple, type(pair))
            i, j, share = pair
            self.assertIs(tuple, type(share))
            self.assertEqual([int] * 4, [type(number) for number in (i, j) + share])


class RefusedPairs(unittest.TestCase):

    REFUSED = (
        (NoKind, "no", (1, 2), [["a"]], {}),
        (NoShare, "both", (2, 4), [["a"]], {}),
        (NoShare, "both", (0, 1), [["a"]], {}),
        (NoShare, "both", (3, 2), [["a"]], {}),
        (NoSet, "both", (1, 2), [["A"]], {}),
        (NoSet, "both", (1, 2), [["a", "a"]], {}),
        (NoWeight, "both", (1, 2), [["a"]], {"a": 0}),
        (NoWeight, "both", (1, 2), [["a"]], {"": 1}),
        # Empty lots, too.
        (NoKind, "no", (1, 2), [], {}),
        (NoShare, "both", (2, 4), [], {}),
        (NoWeight, "both", (1, 2), [], {"a": 0}),
        # Which one goes ahead where several are due.
        (NoKind, "no", (2, 4), [["A"]], {"a": 0}),
        (NoKind, "no", (1, 2), [["A"]], {}),
        (NoKind, "no", (1, 2), [["a"]], {"a": 0}),
        (NoShare, "both", (2, 4), [["A"]], {"a": 0}),
        (NoShare, "both", (2, 4), [["a"]], {"a": 0}),
        (NoSet, "both", (1, 2), [["A"]], {"a": 0}),
        (NoSet, "both", (1, 2), [["a"], ["b", "b"]], {"": 1}),
    )

    def test_refused_by_its_class_and_in_turn(self):
        for refusal, kind, least, lot, weights in self.REFUSED:
            with self.subTest(kind=kind, least=least, lot=lot, weights=weights):
                with self.assertRaises(refusal):
                    plain_pairs(kind, least, lot, weights)


class HandedIn(unittest.TestCase):

    def test_nothing_that_is_handed_in_is_changed(self):
        lot, weights = deepcopy(LOT), dict(WEIGHTS)
        check_lot(lot, weights)
        weight(lot[1], weights)
        common(lot[0], lot[1], weights)
        for kind in KINDS:
            plain_pairs(kind, (1, 2), lot, weights)
        self.assertEqual((LOT, WEIGHTS), (lot, weights))
        self.assertEqual(list(WEIGHTS), list(weights))

    def test_nothing_that_is_refused_is_changed(self):
        lot, weights = [["b", "a"], ["a", "a"]], {"b": 2, "a": 0}
        with self.assertRaises(NoSet):
            plain_pairs("both", (1, 2), lot, weights)
        self.assertEqual(([["b", "a"], ["a", "a"]], {"b": 2, "a": 0}), (lot, weights))

    def test_what_is_done_later_changes_nothing_that_was_told(self):
        lot, weights = deepcopy(LOT), dict(WEIGHTS)
        pairs, shared = plain_pairs("both", (1, 2), lot, weights), common(lot[0], lot[3], weights)
        lot[0].clear()
        weights.clear()
        self.assertEqual(plain_pairs("both", (1, 2), LOT, WEIGHTS), pairs)
        self.assertEqual((["a", "b", "c"], 9), shared)

    def test_asked_again_with_the_same_it_tells_the_same(self):
        told = plain_pairs("both", (1, 2), LOT, WEIGHTS)
        expected = list(told)
        told.clear()
        self.assertEqual(expected, plain_pairs("both", (1, 2), LOT, WEIGHTS))

    def test_what_is_handed_in_anew_counts_anew(self):
        lot, weights = [["a", "b"], ["b", "c"]], {}
        self.assertEqual([], plain_pairs("both", (1, 2), lot, weights))
        weights["b"] = 2
        self.assertEqual([(0, 1, (1, 2))], plain_pairs("both", (1, 2), lot, weights))
        lot[0].remove("a")
        self.assertEqual([(0, 1, (2, 3))], plain_pairs("both", (1, 2), lot, weights))

    def test_nothing_hangs_on_the_order_of_words_or_weights(self):
        turned = {word: WEIGHTS[word] for word in reversed(list(WEIGHTS))}
        for first in permutations(LOT[0]):
            for second in permutations(LOT[1]):
                lot = [list(first), list(second)] + LOT[2:]
                self.assertEqual((["b", "c"], 6), common(lot[0], lot[1], turned))
                self.assertEqual(
                    plain_pairs("mean", (1, 3), LOT, WEIGHTS), plain_pairs("mean", (1, 3), lot, turned),
                )


if __name__ == "__main__":
    unittest.main()

"""Orders, beginnings and rests: points 2, 7 and 11 to 13."""

import unittest
from copy import deepcopy
from itertools import combinations, permutations

import plainly
from muchalike.errors import NoKind, NoShare
from muchalike.orders import beginning, rare_order, rest
from muchalike.sets import common, plain_pairs
from muchalike.shares import least_need
from plainly import KINDS, LEASTS, some_lots, stand, weigh

WEIGHTS = {"a": 3, "b": 1, "c": 5, "unseen": 4}
ORDER = ["x", "c", "a", "y", "d", "b", "z"]


class RareOrder(unittest.TestCase):

    def test_words_in_fewer_sets_stand_first(self):
        lot = [["a", "b", "c"], ["c", "b"], ["c"]]
        self.assertEqual(["a", "b", "c"], rare_order(lot))
        self.assertEqual(["z", "b", "a"], rare_order([["a", "b", "z"], ["a", "b"], ["a"]]))

    def test_alike_ones_stand_in_the_order_of_texts(self):
        lot = [["b", "a.2", "z", "a.10"], ["9", ".", "z"]]
        self.assertEqual([".", "9", "a.10", "a.2", "b", "z"], rare_order(lot))

    def test_a_list_at_two_places_counts_twice(self):
        words = ["b", "a"]
        self.assertEqual(["c", "a", "b"], rare_order([words, ["c"], words]))
        self.assertEqual(["z", "a", "b"], rare_order([words, words, ["z"]]))

    def test_it_has_just_the_words_of_the_lot(self):
        for lot in ([], [[]], [[], []]):
            self.assertEqual([], rare_order(lot))
        self.assertEqual(["a"], rare_order([[], ["a"], []]))

    def test_some_lots(self):
        for lot, _, _, _ in some_lots(60):
            many = {word: sum(word in words for words in lot) for words in lot for word in words}
            expected = [word for count in range(1, 12) for word in sorted(many) if many[word] == count]
            self.assertEqual(expected, rare_order(lot))

    def test_nothing_hangs_on_the_order_of_words_or_sets(self):
        for lot in permutations([["a", "b", "c"], ["c", "d"], ["d", "c"]]):
            self.assertEqual(["a", "b", "d", "c"], rare_order([words[::-1] for words in lot]))


class Beginning(unittest.TestCase):

    def test_one_beginning(self):
        # The set weighs 10, its least mate 5; these need 5, and the rests are 10, 5, 2 and 1.
        self.assertEqual(["c", "a"], beginning("both", (1, 2), ["a", "b", "c", "d"], WEIGHTS, ORDER))

    def test_a_rest_that_is_just_the_least_need_is_enough(self):
        words = ["a", "b", "c", "d"]
        self.assertEqual(["a", "b"], beginning("both", (3, 4), words, {}, ["a", "b", "c", "d"]))
        self.assertEqual(["a"], beginning("both", (10, 13), words, {}, ["a", "b", "c", "d"]))
        self.assertEqual(["a", "b"], beginning("both", (3, 4), words, {"b": 2}, ["a", "b", "c", "d"]))
        self.assertEqual(["b"], beginning("both", (3, 4), words, {"b": 2}, ["b", "a", "c", "d"]))

    def test_of_an_empty_set_it_is_empty(self):
        for kind in KINDS:
            for order in ([], ["a"], ORDER):
                self.assertEqual([], beginning(kind, (1, 2), [], WEIGHTS, order))

    def test_by_a_small_least_share_it_is_the_whole_set(self):
        for kind in KINDS:
            told = beginning(kind, (1, 10 ** 20 - 1), ["a", "b", "c", "d"], WEIGHTS, ORDER)
            self.assertEqual(["c", "a", "d", "b"], told)

    def test_by_the_least_share_1_it_is_the_first_word(self):
        for kind in ("both", "mean", "greater", "square"):
            self.assertEqual(["c"], beginning(kind, (1, 1), ["a", "b", "c"], WEIGHTS, ORDER))
        self.assertEqual(["c", "a", "b"], beginning("lesser", (1, 1), ["a", "b", "c"], WEIGHTS, ORDER))

    def test_all_small_sets(self):
        orders = (ORDER, ORDER[::-1], sorted(ORDER), ["b", "a", "d", "c"])
        for size in range(5):
            for words in combinations("dcba", size):
                for kind in KINDS:
                    for least in LEASTS:
                        for order in orders:
                            self.assertEqual(
                                plainly.beginning(kind, least, words, WEIGHTS, order),
                                beginning(kind, least, list(words), WEIGHTS, order),
                            )

    def test_some_lots(self):
        for lot, weights, order, _ in some_lots(30):
            for words in lot:
                for kind in KINDS:
                    for least in ((1, 2), (3, 7), (9, 10)):
                        expected = plainly.beginning(kind, least, words, weights, order)
                        self.assertEqual(expected, beginning(kind, least, words, weights, order))

    def test_great_weights(self):
        words = [f"w{at:02d}" for at in range(60)]
        weights = {word: 10 ** 6 - at for at, word in enumerate(words)}
        for kind in KINDS:
            for least in ((1, 2), (10 ** 19, 10 ** 20 - 1), (10 ** 20 - 2, 10 ** 20 - 1)):
                enough = least_need(kind, least, weigh(words, weights))
                expected = [word for at, word in enumerate(words) if weigh(words[at:], weights) >= enough]
                self.assertEqual(expected, beginning(kind, least, words[::-1], weights, words))

    def test_alike_sets_have_the_first_word_of_both_in_their_beginnings(self):
        seen = 0
        for lot, weights, order, _ in some_lots(60):
            for kind in KINDS:
                for least in ((1, 2), (2, 3), (1, 5)):
                    for i, j, _ in plain_pairs(kind, least, lot, weights):
                        first = stand(common(lot[i], lot[j], weights)[0], order)[0]
                        self.assertIn(first, beginning(kind, least, lot[i], weights, order))
                        self.assertIn(first, beginning(kind, least, lot[j], weights, order))
                        seen += 1
        self.assertGreater(seen, 1000)

    def test_refused_in_turn(self):
        for words in ([], ["a"]):
            with self.assertRaises(NoKind):
                beginning("no", (1, 2), words, {}, ["a"])
            with self.assertRaises(NoKind):
                beginning("no", (2, 4), words, {}, ["a"])
            for least in ((2, 4), (0, 1), (-1, 2), (3, 2), (1, 0), (0, 0), (1, -1), (2, 2)):
                with self.assertRaises(NoShare):
                    beginning("both", least, words, {}, ["a"])


class Rest(unittest.TestCase):

    def test_the_word_and_all_behind_it(self):
        words = ["a", "b", "c", "d"]
        expected = {"c": 10, "a": 5, "d": 2, "b": 1}
        self.assertEqual(expected, {word: rest(words, WEIGHTS, ORDER, word) for word in words})

    def test_words_of_the_order_alone_do_not_weigh(self):
        self.assertEqual(1, rest(["a"], {"x": 7, "y": 9}, ORDER, "a"))

    def test_some_lots(self):
        for lot, weights, order, _ in some_lots(40):
            for words in lot:
                for word in words:
                    self.assertEqual(
                        plainly.rest(words, weights, order, word), rest(words, weights, order, word),
                    )

    def test_what_two_sets_have_in_common_weighs_no_more_than_the_lesser_rest(self):
        for lot, weights, order, _ in some_lots(40):
            for one, other in combinations(lot, 2):
                words, both_have = common(one, other, weights)
                if words:
                    first = stand(words, order)[0]
                    self.assertLessEqual(both_have, rest(one, weights, order, first))
                    self.assertLessEqual(both_have, rest(other, weights, order, first))


class HandedIn(unittest.TestCase):

    def test_nothing_is_changed(self):
        lot, weights, order = [["b", "a"], ["c", "b"], []], {"b": 2, "a": 3}, ["c", "b", "a"]
        kept = deepcopy((lot, weights, order))
        for _ in range(2):
            rare_order(lot)
            for words in lot:
                beginning("both", (1, 2), words, weights, order)
            rest(lot[0], weights, order, "a")
        self.assertEqual(kept, (lot, weights, order))
        self.assertEqual(["b", "a"], list(weights))

    def test_lists_that_are_told_are_the_askers_own(self):
        lot, order = [["a", "b"]], ["a", "b"]
        for ask in (
            lambda: rare_order(lot),
            lambda: beginning("lesser", (1, 2), lot[0], {}, order),
            lambda: beginning("lesser", (1, 2), [], {}, order),
        ):
            told, again = ask(), ask()
            expected = list(told)
            told.append("more")
            self.assertEqual(expected, again)
            self.assertEqual(expected, ask())
        self.assertEqual(([["a", "b"]], ["a", "b"]), (lot, order))

    def test_nothing_hangs_on_the_order_of_words_or_weights(self):
        turned = {word: WEIGHTS[word] for word in reversed(list(WEIGHTS))}
        for words in permutations(["a", "b", "c", "d"]):
            self.assertEqual(["c", "a"], beginning("both", (1, 2), list(words), turned, ORDER))
            self.assertEqual(5, rest(list(words), turned, ORDER, "a"))


if __name__ == "__main__":
    unittest.main()

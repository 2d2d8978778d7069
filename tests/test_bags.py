"""Bags and their spread sets: points 2, 4, 5, 7, 8 and 24."""

import unittest
from copy import deepcopy
from itertools import permutations, product
from random import Random

import plainly
from muchalike.bags import bag_common, bag_share, spread, spread_weights
from muchalike.errors import NoKind, NoSet, NoWeight
from muchalike.sets import check_lot, common, plain_pairs
from plainly import KINDS

NO_WORDS = ("", "A", "a b", " a", "-", "a\n", "~", "a" * 25, "a" * 30, "a" * 31)
NO_BAGS = tuple(bag for text in NO_WORDS for bag in ([text], ["a", "a", text], [text, "b"]))
NO_WEIGHTS = ({"a": 0}, {"b": 1, "c": -1}, {"": 1}, {"A": 1}, {"-": 2}, {"x" * 31: 1}, {"a": 1, "b ": 1})


def weigh_both(one, other, weights):
    """Tell what two bags have in common, by taking out word by word."""
    left, told = list(other), 0
    for word in one:
        if word in left:
            left.remove(word)
            told += weights.get(word, 1)
    return told


def share_of_bags(kind, one, other, weights):
    a, b = plainly.weigh(one, weights), plainly.weigh(other, weights)
    if not a or not b:
        return (0, 1)
    told = plainly.fraction(kind, a, b, weigh_both(one, other, weights))
    return (told.numerator, told.denominator)


def some_bags():
    chance = Random(24)
    for _ in range(120):
        bags = [[chance.choice(["a", "b", "a.1", "c"]) for _ in range(chance.randint(0, 14))] for _ in range(4)]
        weights = {word: chance.randint(1, 5) for word in ("a", "b", "a.1", "a.2", "z") if chance.random() < 0.6}
        yield bags, weights


class Common(unittest.TestCase):

    def test_each_word_as_often_as_it_comes_less_often(self):
        self.assertEqual(2, bag_common(["a", "b", "a"], ["a", "a", "a", "c"], {}))
        self.assertEqual(11, bag_common(["a", "b", "a"], ["a", "b", "b", "a", "a"], {"a": 5, "c": 7}))
        self.assertEqual(0, bag_common(["a"], ["b"], {"a": 5}))

    def test_empty_bags(self):
        for other in ([], ["a"], ["a", "a"]):
            self.assertEqual(0, bag_common([], other, {"a": 3}))
            self.assertEqual(0, bag_common(other, [], {"a": 3}))

    def test_with_itself_it_is_the_bags_weight(self):
        self.assertEqual(9, bag_common(["a", "b", "a"], ["b", "a", "a"], {"a": 4}))
        for bags, weights in some_bags():
            for bag in bags:
                self.assertEqual(plainly.weigh(bag, weights), bag_common(bag, bag, weights))

    def test_some(self):
        for bags, weights in some_bags():
            for one, other in product(bags, repeat=2):
                self.assertEqual(weigh_both(one, other, weights), bag_common(one, other, weights))

    def test_bags_of_sixty_words_of_great_weight(self):
        self.assertEqual(59 * 10 ** 6, bag_common(["a"] * 60, ["a"] * 59 + ["b"], {"a": 10 ** 6}))


class Share(unittest.TestCase):

    def test_by_each_kind(self):
        one, other = ["a", "a", "b"], ["a", "c", "a", "a"]
        expected = {"both": (2, 5), "mean": (4, 7), "greater": (1, 2), "lesser": (2, 3), "square": (1, 3)}
        for kind in KINDS:
            self.assertEqual(expected[kind], bag_share(kind, one, other, {}))

    def test_empty_bags_have_share_0(self):
        for kind in KINDS:
            for one, other in (([], []), ([], ["a"]), (["a", "a"], [])):
                self.assertEqual((0, 1), bag_share(kind, one, other, {"a": 3}))

    def test_bags_with_nothing_in_common_have_share_0(self):
        for kind in KINDS:
            self.assertEqual((0, 1), bag_share(kind, ["a", "a"], ["b"], {}))

    def test_some(self):
        for bags, weights in some_bags():
            for kind in KINDS:
                for one, other in product(bags, repeat=2):
                    told = bag_share(kind, one, other, weights)
                    self.assertEqual(share_of_bags(kind, one, other, weights), told)


class Spread(unittest.TestCase):

    def test_a_word_for_each_time(self):
        self.assertEqual(["a.1", "a.2", "b.1"], spread(["a", "b", "a"]))
        self.assertEqual([], spread([]))

    def test_ten_times_and_more_stands_ahead_of_twice(self):
        expected = ["a.1", "a.10", "a.11", "a.2", "a.3", "a.4", "a.5", "a.6", "a.7", "a.8", "a.9", "b.1"]
        self.assertEqual(expected, spread(["a"] * 5 + ["b"] + ["a"] * 6))

    def test_words_with_points_and_figures_stay_apart(self):
        self.assertEqual(["a.1", "a.1.1", "a.1.2", "a.2"], spread(["a.1", "a", "a", "a.1"]))
        self.assertEqual(["..1", "1.1", "1.1.1"], spread(["1", "1.1", "."]))

    def test_sixty_times_a_word_of_24_signs(self):
        told = spread(["z" * 24] * 60)
        self.assertEqual(sorted(f"{'z' * 24}.{k}" for k in range(1, 61)), told)
        self.assertIsNone(check_lot([told], {}))

    def test_some_are_good_sets_in_the_order_of_texts(self):
        for bags, _ in some_bags():
            told = [spread(bag) for bag in bags]
            self.assertIsNone(check_lot(told, {}))
            for bag, words in zip(bags, told):
                expected = sorted(f"{word}.{bag[:at + 1].count(word)}" for at, word in enumerate(bag))
                self.assertEqual(expected, words)


class SpreadWeights(unittest.TestCase):

    def test_just_the_words_of_the_spread_sets(self):
        self.assertEqual(
            {"a.1": 4, "a.2": 4, "a.3": 4, "b.1": 1},
            spread_weights([["a", "b"], [], ["a", "a", "a"]], {"a": 4, "c": 9, "a.1": 7}),
        )

    def test_of_no_words(self):
        self.assertEqual({}, spread_weights([], {"a": 4}))
        self.assertEqual({}, spread_weights([[], []], {"a": 4}))

    def test_spread_sets_have_the_share_that_the_bags_have(self):
        for bags, weights in some_bags():
            lot, spread_out = [spread(bag) for bag in bags], spread_weights(bags, weights)
            self.assertEqual({word for words in lot for word in words}, set(spread_out))
            self.assertTrue(all(type(number) is int for number in spread_out.values()))
            for i, j in product(range(len(bags)), repeat=2):
                together = common(lot[i], lot[j], spread_out)[1]
                self.assertEqual(bag_common(bags[i], bags[j], weights), together)
            for kind in KINDS:
                expected = [
                    (i, j, share_of_bags(kind, bags[i], bags[j], weights)) for i in range(4) for j in range(i + 1, 4)
                ]
                told = plain_pairs(kind, (1, 10 ** 6), lot, spread_out)
                self.assertEqual([pair for pair in expected if pair[2][0]], told)

    def test_forty_bags(self):
        bags = [["a"] * at + ["b"] * (60 - at) for at in range(21, 61)]
        expected = {f"a.{k}": 3 for k in range(1, 61)} | {f"b.{k}": 1 for k in range(1, 40)}
        self.assertEqual(expected, spread_weights(bags, {"a": 3}))


class Refused(unittest.TestCase):

    def test_words_of_24_signs_and_of_25(self):
        for word in ("a" * 24, "." * 24, "0" * 24):
            self.assertEqual(1, bag_common([word], [word], {}))
            self.assertEqual((1, 1), bag_share("both", [word], [word], {}))
            self.assertEqual([word + ".1"], spread([word]))
            self.assertEqual({word + ".1": 2}, spread_weights([[word]], {word: 2}))
        self.assertEqual(1, bag_common(["a"], ["a"], {"b" * 25: 2, "b" * 30: 2}))
        self.assertEqual((1, 1), bag_share("both", ["a"], ["a"], {"b" * 30: 2}))
        self.assertEqual({"a.1": 1}, spread_weights([["a"]], {"b" * 30: 2}))

    def test_what_is_no_bag(self):
        for bag in NO_BAGS:
            for weights in ({}, {"a": 0}):
                for asked in (
                    lambda: bag_common(bag, ["a"], weights), lambda: bag_common([], bag, weights),
                    lambda: bag_share("both", bag, [], weights), lambda: bag_share("mean", ["a"], bag, weights),
                    lambda: spread(bag),
                    lambda: spread_weights([bag], weights), lambda: spread_weights([[], ["a"], bag], weights),
                ):
                    with self.assertRaises(NoSet):
                        asked()

    def test_what_are_no_weights(self):
        for weights in NO_WEIGHTS:
            for asked in (
                lambda: bag_common(["a"], ["a"], weights), lambda: bag_common([], [], weights),
                lambda: bag_share("both", ["a"], ["d", "d"], weights), lambda: bag_share("both", [], [], weights),
                lambda: spread_weights([["a"]], weights), lambda: spread_weights([], weights),
            ):
                with self.assertRaises(NoWeight):
                    asked()

    def test_a_kind_that_is_none_goes_ahead(self):
        for kind in ("", "BOTH", "all", "both "):
            for one, other, weights in (
                (["a"], ["a"], {}), ([], [], {}), (["A"], ["a"], {}),
                (["a"], ["A"], {"a": 0}), (["a"], ["a"], {"a": 0}),
            ):
                with self.assertRaises(NoKind):
                    bag_share(kind, one, other, weights)


class HandedIn(unittest.TestCase):

    BAGS = [["b", "a", "b"], ["a", "c", "a", "b"]]
    WEIGHTS = {"b": 3, "a": 2}

    def all_of(self, bags, weights):
        return (
            bag_common(bags[0], bags[1], weights), bag_share("mean", bags[0], bags[1], weights),
            spread(bags[0]), spread_weights(bags, weights),
        )

    def test_nothing_is_changed(self):
        bags, weights = deepcopy(self.BAGS), dict(self.WEIGHTS)
        self.all_of(bags, weights)
        self.assertEqual((self.BAGS, list(self.WEIGHTS.items())), (bags, list(weights.items())))

    def test_what_is_told_is_new_and_the_same_again(self):
        bags, weights = deepcopy(self.BAGS), dict(self.WEIGHTS)
        told, expected = self.all_of(bags, weights), self.all_of(bags, weights)
        told[2].clear()
        told[3].clear()
        self.assertEqual(expected, self.all_of(bags, weights))
        self.assertEqual((self.BAGS, self.WEIGHTS), (bags, weights))
        bags[0].append("z")
        bags[1].clear()
        weights["a"] = 100
        self.assertEqual((5, (5, 8), ["a.1", "b.1", "b.2"]), expected[:3])
        self.assertEqual({"a.1": 2, "a.2": 2, "b.1": 3, "b.2": 3, "c.1": 1}, expected[3])

    def test_nothing_hangs_on_the_order_of_words_or_weights(self):
        expected = self.all_of(self.BAGS, self.WEIGHTS)
        for one in permutations(self.BAGS[0]):
            for other in permutations(self.BAGS[1]):
                told = self.all_of([list(one), list(other)], {"a": 2, "b": 3})
                self.assertEqual(expected, told)
                self.assertEqual(list(expected[3]), list(told[3]))


if __name__ == "__main__":
    unittest.main()

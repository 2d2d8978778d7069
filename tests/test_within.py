"""Sets within others, and tops: points 2, 8 and 25."""

import unittest
from copy import deepcopy
from itertools import combinations, permutations

from muchalike.errors import NoSet
from muchalike.within import tops, within_pairs
from plainly import some_lots

LOT = [["b", "a"], ["a"], ["c", "a", "b"], [], ["a", "b"], ["d"], ["b", "c", "a"]]
NO_LOTS = (
    [[""]], [["A"]], [["a", "a"]], [["a"], ["b", "c", "b"]], [["a"], [], ["a b"]], [["a" * 31]], [["-"]], [["a\n"]],
)


def plain_within(lot):
    numbers = range(len(lot))
    return [(i, j) for i in numbers for j in numbers if i != j and all(word in lot[j] for word in lot[i])]


def plain_tops(lot):
    told = []
    for i, words in enumerate(lot):
        beyond = [other for other in lot if set(words) < set(other)]
        like = [j for j, other in enumerate(lot) if set(words) == set(other)]
        if not beyond and like[0] == i:
            told.append(i)
    return told


def chain_of_sets():
    return [[f"w{number}" for number in range(many)] for many in range(21, 61)]


class WithinPairs(unittest.TestCase):

    def test_all_in_order(self):
        expected = [
            (0, 2), (0, 4), (0, 6), (1, 0), (1, 2), (1, 4), (1, 6), (2, 6), (3, 0), (3, 1), (3, 2), (3, 4), (3, 5),
            (3, 6), (4, 0), (4, 2), (4, 6), (6, 2),
        ]
        self.assertEqual(expected, within_pairs(LOT))

    def test_like_sets_are_within_one_another(self):
        self.assertEqual([(0, 1), (1, 0)], within_pairs([["a", "b"], ["b", "a"]]))
        self.assertEqual([(0, 1), (1, 0)], within_pairs([[], []]))

    def test_the_empty_set_is_within_each(self):
        self.assertEqual([(1, 0), (1, 2)], within_pairs([["a"], [], ["b"]]))

    def test_of_few_sets(self):
        self.assertEqual([], within_pairs([]))
        self.assertEqual([], within_pairs([[]]))
        self.assertEqual([], within_pairs([["a"]]))
        self.assertEqual([], within_pairs([["a", "b"], ["b", "c"]]))

    def test_words_that_begin_alike_are_unlike(self):
        self.assertEqual([], within_pairs([["a"], ["ab", "a.1"], ["b", "a."]]))

    def test_some_lots(self):
        for lot, _, _, _ in some_lots(80):
            self.assertEqual(plain_within(lot), within_pairs(lot))

    def test_all_small_sets(self):
        lot = [list(words) for size in range(4) for words in combinations("cba", size)] * 2
        self.assertEqual(plain_within(lot), within_pairs(lot))
        self.assertEqual([7], tops(lot))

    def test_forty_sets_of_up_to_sixty_words(self):
        expected = [(i, j) for i in range(40) for j in range(i + 1, 40)]
        self.assertEqual(expected, within_pairs(chain_of_sets()))


class Tops(unittest.TestCase):

    def test_within_no_set_with_other_words(self):
        self.assertEqual([2, 5], tops(LOT))
        self.assertEqual([0, 1], tops([["a", "b"], ["b", "c"]]))

    def test_of_like_sets_the_least(self):
        self.assertEqual([0], tops([["a", "b"], ["b", "a"], ["a", "b"]]))
        self.assertEqual([1, 2], tops([["a"], ["a", "b"], ["c"], ["b", "a"], ["c"]]))

    def test_the_empty_set_is_a_top_where_no_set_has_words(self):
        self.assertEqual([0], tops([[]]))
        self.assertEqual([0], tops([[], [], []]))
        self.assertEqual([1], tops([[], ["a"], []]))

    def test_of_no_sets(self):
        self.assertEqual([], tops([]))

    def test_some_lots(self):
        for lot, _, _, _ in some_lots(80):
            self.assertEqual(plain_tops(lot), tops(lot))

    def test_forty_sets_of_up_to_sixty_words(self):
        self.assertEqual([39], tops(chain_of_sets()))
        self.assertEqual([0], tops(chain_of_sets()[::-1]))
        self.assertEqual([0], tops([[f"w{number}" for number in range(60)]] * 40))


class Refused(unittest.TestCase):

    def test_what_is_no_lot(self):
        for lot in NO_LOTS:
            for asked in (within_pairs, tops):
                with self.assertRaises(NoSet):
                    asked(lot)


class HandedIn(unittest.TestCase):

    def test_nothing_is_changed_and_what_is_told_is_new(self):
        for asked in (within_pairs, tops):
            lot = deepcopy(LOT)
            told, expected = asked(lot), asked(lot)
            self.assertEqual(LOT, lot)
            told.clear()
            self.assertEqual(expected, asked(lot))
            lot[0].clear()
            lot.pop()
            self.assertEqual(asked(LOT), expected)

    def test_nothing_hangs_on_the_order_of_words(self):
        for words in permutations(LOT[2]):
            lot = LOT[:2] + [list(words)] + LOT[3:]
            self.assertEqual(within_pairs(LOT), within_pairs(lot))
            self.assertEqual(tops(LOT), tops(lot))


if __name__ == "__main__":
    unittest.main()

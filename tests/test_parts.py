"""Parts, agreeing and what must agree: points 2, 7, 14 and 15."""

import unittest
from copy import deepcopy
from itertools import combinations, permutations

import plainly
from muchalike.errors import NoKind, NoParts, NoShare
from muchalike.parts import agree, even_parts, must_agree
from muchalike.sets import plain_pairs, weight
from plainly import KINDS, LEASTS, agreeing, some_lots

LOT = [["d", "b"], [], ["a", "e", "b"], ["c"]]


class EvenParts(unittest.TestCase):

    def test_words_are_dealt_out_in_turn(self):
        self.assertEqual([["a", "b", "c", "d", "e"]], even_parts(LOT, 1))
        self.assertEqual([["a", "c", "e"], ["b", "d"]], even_parts(LOT, 2))
        self.assertEqual([["a", "d"], ["b", "e"], ["c"]], even_parts(LOT, 3))

    def test_parts_beyond_the_words_are_empty(self):
        self.assertEqual([["a"], ["b"], ["c"], ["d"], ["e"], [], []], even_parts(LOT, 7))
        self.assertEqual(5, sum(len(part) for part in even_parts(LOT, 1000)))

    def test_of_lots_without_words_all_are_empty(self):
        for lot in ([], [[]], [[], []]):
            self.assertEqual([[]], even_parts(lot, 1))
            self.assertEqual([[], [], []], even_parts(lot, 3))

    def test_words_stand_in_the_order_of_texts(self):
        lot = [["b", "a.2", "z", "a.10"], ["9", ".", "z"]]
        self.assertEqual([[".", "a.10", "b"], ["9", "a.2", "z"]], even_parts(lot, 2))

    def test_some_lots(self):
        for lot, _, _, _ in some_lots(40):
            words = sorted({word for one in lot for word in one})
            for many in range(1, 13):
                expected = [[word for k, word in enumerate(words) if k % many == at] for at in range(many)]
                self.assertEqual(expected, even_parts(lot, many))

    def test_below_1_is_refused(self):
        for lot in ([], [[]], LOT):
            for many in (0, -1, -12):
                with self.assertRaises(NoParts):
                    even_parts(lot, many)


class Agree(unittest.TestCase):

    def test_where_two_sets_have_the_same_words(self):
        parts = [["a", "b"], ["c"], [], ["d", "e"], ["f"]]
        self.assertEqual([2, 4], agree(["a", "b", "d"], ["a", "c", "e"], parts))
        self.assertEqual([0, 1, 2, 4], agree(["b", "a", "e"], ["a", "b"], parts))

    def test_like_sets_agree_in_all(self):
        for words in ([], ["a"], ["a", "c", "d"]):
            self.assertEqual([0, 1, 2], agree(words, words[::-1], [["c", "a"], [], ["d"]]))

    def test_sets_agree_in_empty_parts(self):
        self.assertEqual([0, 2], agree(["a"], ["b"], [[], ["a", "b"], []]))

    def test_all_small_sets(self):
        sets = [list(some) for size in range(5) for some in combinations("dcba", size)]
        for parts in ([["a", "b", "c", "d"]], [["x", "d"], ["c", "b"], [], ["y", "a"]], [["d"], ["a", "c", "b"]]):
            for one in sets:
                for other in sets:
                    self.assertEqual(agreeing(one, other, parts), agree(one, other, parts))

    def test_alike_sets_agree_in_as_many_parts_as_must_agree(self):
        seen = 0
        for lot, weights, _, parts in some_lots(60):
            for kind in KINDS:
                for least in ((1, 2), (2, 3), (9, 10)):
                    for i, j, _ in plain_pairs(kind, least, lot, weights):
                        a, b = weight(lot[i], weights), weight(lot[j], weights)
                        told = len(agree(lot[i], lot[j], parts))
                        self.assertGreaterEqual(told, must_agree(kind, least, a, b, len(parts)))
                        seen += 1
        self.assertGreater(seen, 1000)


class MustAgree(unittest.TestCase):

    def test_some(self):
        # Of weights 10 and 10 what they need is 7, so the room is 6.
        self.assertEqual(0, must_agree("both", (1, 2), 10, 10, 5))
        self.assertEqual(0, must_agree("both", (1, 2), 10, 10, 6))
        self.assertEqual(1, must_agree("both", (1, 2), 10, 10, 7))
        self.assertEqual(6, must_agree("both", (1, 2), 10, 10, 12))

    def test_without_room_all_must_agree(self):
        for many in range(1, 13):
            self.assertEqual(many, must_agree("mean", (1, 1), 9, 9, many))

    def test_a_room_below_0(self):
        # Weights that are no mates may need more than both have: 1 and 10 need 10 here.
        self.assertEqual(12, must_agree("greater", (1, 1), 1, 10, 3))
        self.assertEqual(10, must_agree("greater", (1, 1), 10, 1, 1))

    def test_all_small_weights(self):
        for kind in KINDS:
            for least in LEASTS:
                for a in range(1, 9):
                    for b in range(1, 9):
                        room = a + b - 2 * plainly.need(kind, least, a, b)
                        for many in (1, 2, 5, 12):
                            expected = max(0, many - room)
                            self.assertEqual(expected, must_agree(kind, least, a, b, many))

    def test_great_weights(self):
        self.assertEqual(0, must_agree("lesser", (1, 10 ** 20 - 1), 10 ** 18, 10 ** 18, 12))
        self.assertEqual(12, must_agree("square", (1, 1), 10 ** 18, 10 ** 18, 12))
        self.assertEqual(10, must_agree("both", (10 ** 18 - 1, 10 ** 18 + 1), 10 ** 18, 10 ** 18, 12))

    def test_refused_in_turn(self):
        with self.assertRaises(NoKind):
            must_agree("no", (1, 2), 1, 1, 1)
        with self.assertRaises(NoKind):
            must_agree("no", (2, 4), 1, 1, 1)
        for least in ((2, 4), (0, 1), (-1, 2), (3, 2), (1, 0), (0, 0), (1, -1), (2, 2)):
            with self.assertRaises(NoShare):
                must_agree("both", least, 1, 1, 1)


class HandedIn(unittest.TestCase):

    def test_nothing_is_changed(self):
        lot, parts = deepcopy(LOT), [["e", "a"], [], ["d", "c", "b"]]
        even_parts(lot, 2)
        agree(lot[0], lot[2], parts)
        self.assertEqual((LOT, [["e", "a"], [], ["d", "c", "b"]]), (lot, parts))

    def test_lists_that_are_told_are_the_askers_own(self):
        for many in (1, 2, 9):
            told, again = even_parts(LOT, many), even_parts(LOT, many)
            self.assertEqual(many, len({id(part) for part in told}))
            told[0].append("more")
            told[-1].append("more")
            self.assertEqual(again, even_parts(LOT, many))
        told = agree(["a"], ["a"], [["a"]])
        told.append(1)
        self.assertEqual([0], agree(["a"], ["a"], [["a"]]))

    def test_nothing_hangs_on_the_order_of_words(self):
        for words in permutations(["a", "b", "d"]):
            self.assertEqual([["a", "d"], ["b"]], even_parts([list(words)], 2))
            self.assertEqual([1], agree(list(words), ["b", "a"], [["a", "d"], ["b"]]))
            self.assertEqual([0], agree(["b", "a"], list(words), [["a"], ["b", "d"]]))


if __name__ == "__main__":
    unittest.main()

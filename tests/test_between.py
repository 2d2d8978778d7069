"""Pairs of two lots: points 2, 4, 7, 16, 17 and 35."""

import unittest
from copy import deepcopy
from fractions import Fraction
from itertools import permutations

import plainly
from muchalike.between import found_between, held_between
from muchalike.errors import NoKind, NoOrder, NoParts, NoSet, NoShare, NoWay, NoWeight
from muchalike.ways import found, held
from plainly import KINDS, WAYS, some_lots

ONE = [["a", "b", "c"], [], ["d"], ["a", "b", "c"]]
OTHER = [["b", "c", "d"], ["e"], ["c", "b", "a"], [], ["d"]]
WEIGHTS = {"b": 2, "unseen": 7}
ORDER = ["e", "d", "a", "x", "b", "c"]
PARTS = [["a", "d"], [], ["b", "e"], ["c", "x"]]


def by_of(way, order, parts):
    return {"beginnings": order, "places": order, "parts": parts}.get(way)


def plain_held(way, kind, least, one, other, weights, by):
    return [
        (i, j) for i in range(len(one)) for j in range(len(other))
        if plainly.is_held(way, kind, least, one[i], other[j], weights, by)
    ]


def plain_found(kind, least, one, other, weights):
    told = []
    for i, words in enumerate(one):
        for j, others in enumerate(other):
            share = plainly.share(kind, words, others, weights)
            if share >= Fraction(*least):
                told.append(plainly.pair_of(i, j, share))
    return told


class Between(unittest.TestCase):

    def test_some(self):
        everything = [(i, j) for i in range(4) for j in range(5)]
        self.assertEqual(everything, held_between("all", "both", (1, 2), ONE, OTHER, WEIGHTS, None))
        lengths = [(0, 0), (0, 2), (2, 1), (2, 4), (3, 0), (3, 2)]
        self.assertEqual(lengths, held_between("lengths", "both", (1, 2), ONE, OTHER, WEIGHTS, None))
        begun = [(0, 0), (0, 2), (2, 4), (3, 0), (3, 2)]
        self.assertEqual(begun, held_between("beginnings", "both", (1, 2), ONE, OTHER, WEIGHTS, ORDER))
        expected = [(0, 0, (3, 5)), (0, 2, (1, 1)), (2, 4, (1, 1)), (3, 0, (3, 5)), (3, 2, (1, 1))]
        for way in WAYS:
            by = by_of(way, ORDER, PARTS)
            self.assertEqual(expected, found_between(way, "both", (1, 2), ONE, OTHER, WEIGHTS, by))

    def test_each_is_held_against_those_of_the_other_lot_alone(self):
        self.assertEqual([], found_between("all", "both", (1, 2), [["a"], ["a"]], [["b"], ["b"]], {}, None))
        expected = [(0, 1, (1, 1)), (1, 1, (1, 1))]
        self.assertEqual(expected, found_between("all", "both", (1, 2), [["a"], ["a"]], [["b"], ["a"]], {}, None))

    def test_of_lots_of_other_sizes(self):
        self.assertEqual([(2, 0, (1, 1))], found_between("all", "both", (1, 1), [["a"], [], ["b"]], [["b"]], {}, None))
        self.assertEqual([(0, 2, (1, 1))], found_between("all", "both", (1, 1), [["b"]], [["a"], [], ["b"]], {}, None))

    def test_of_empty_lots(self):
        for way in WAYS:
            by = by_of(way, ORDER, PARTS)
            for one, other in (([], []), ([], OTHER), (ONE, []), ([[]], []), ([], [[]])):
                self.assertEqual([], held_between(way, "both", (1, 2), one, other, {}, by))
                self.assertEqual([], found_between(way, "both", (1, 2), one, other, {}, by))

    def test_sets_without_a_word(self):
        for way in WAYS:
            by = by_of(way, ["a"], [["a"]])
            pairs = held_between(way, "both", (1, 2), [[], ["a"]], [[]], {}, by)
            self.assertEqual([(0, 0), (1, 0)] if way == "all" else [], pairs)
            self.assertEqual([], found_between(way, "both", (1, 2), [[], ["a"]], [[]], {}, by))

    def test_some_lots_by_each_way(self):
        seen = 0
        lots = list(some_lots(30))
        for (one, weights, order, parts), (other, _, _, _) in zip(lots, lots[1:] + lots[:1]):
            for kind in KINDS:
                for least in ((1, 2), (2, 3), (1, 5)):
                    pairs = plain_found(kind, least, one, other, weights)
                    seen += len(pairs)
                    for way in WAYS:
                        by = by_of(way, order, parts)
                        expected = plain_held(way, kind, least, one, other, weights, by)
                        told = held_between(way, kind, least, one, other, weights, by)
                        self.assertEqual(expected, told)
                        self.assertEqual(pairs, found_between(way, kind, least, one, other, weights, by))
                        self.assertLessEqual({pair[:2] for pair in pairs}, set(told))
        self.assertGreater(seen, 1000)

    def test_of_a_lot_and_itself_are_its_pairs_in_both_turns(self):
        for lot, weights, order, parts in some_lots(15):
            for way in WAYS:
                by = by_of(way, order, parts)
                for asked, asked_between in ((held, held_between), (found, found_between)):
                    within = asked(way, "mean", (1, 2), lot, weights, by)
                    between = asked_between(way, "mean", (1, 2), lot, lot, weights, by)
                    self.assertEqual(within, [pair for pair in between if pair[0] < pair[1]])
                    turned = [(pair[1], pair[0]) + pair[2:] for pair in between if pair[0] > pair[1]]
                    self.assertEqual(within, sorted(turned))

    def test_two_great_lots(self):
        one = [[f"w{number}" for number in range(first, first + 60)] for first in range(40)]
        other = [words[::-1] for words in one[::2]]
        expected = plain_found("both", (9, 10), one, other, {})
        order = sorted({word for words in one for word in words})
        self.assertEqual(expected, found_between("places", "both", (9, 10), one, other, {}, order))
        self.assertEqual(expected, found_between("parts", "both", (9, 10), one, other, {}, [order[::2], order[1::2]]))


class Refused(unittest.TestCase):

    REFUSED = (
        (NoKind, "all", "no", (2, 4), [["A"]], [["A"]], {"a": 0}, None),
        (NoKind, "no", "", (1, 2), [], [], {}, None),
        (NoShare, "no", "both", (2, 4), [["A"]], [], {"a": 0}, None),
        (NoShare, "all", "both", (0, 1), [], [], {}, None),
        (NoSet, "all", "both", (1, 2), [["A"]], [], {"a": 0}, None),
        (NoSet, "no", "both", (1, 2), [], [["a"], ["b", "b"]], {"a": 0}, None),
        (NoSet, "parts", "both", (1, 2), [["a"]], [[""]], {}, []),
        (NoWeight, "no", "both", (1, 2), [["a"]], [["a"]], {"a": 0}, None),
        (NoWeight, "beginnings", "both", (1, 2), [], [], {"": 1}, ["A"]),
        (NoWay, "no", "both", (1, 2), [["a"]], [["a"]], {}, None),
        (NoWay, "", "both", (1, 2), [], [], {}, []),
        (NoOrder, "beginnings", "both", (1, 2), [["a"]], [["b"]], {}, ["a"]),
        (NoOrder, "beginnings", "both", (1, 2), [["a"]], [["b"]], {}, ["b"]),
        (NoOrder, "places", "both", (1, 2), [["a"]], [["b"]], {}, ["b", "a", "b"]),
        (NoOrder, "places", "both", (1, 2), [], [], {}, ["A"]),
        (NoParts, "parts", "both", (1, 2), [["a"]], [["b"]], {}, [["a"]]),
        (NoParts, "parts", "both", (1, 2), [["a"]], [["b"]], {}, [["b"]]),
        (NoParts, "parts", "both", (1, 2), [["a"]], [["b"]], {}, [["b", "a"], ["a"]]),
        (NoParts, "parts", "both", (1, 2), [], [], {}, []),
        (NoParts, "parts", "both", (1, 2), [], [], {}, [["A"]]),
    )

    def test_refused_by_its_class_and_in_turn(self):
        for refusal, way, kind, least, one, other, weights, by in self.REFUSED:
            for asked in (held_between, found_between):
                with self.subTest(asked=asked.__name__, way=way, kind=kind, least=least, one=one, other=other, by=by):
                    with self.assertRaises(refusal):
                        asked(way, kind, least, one, other, weights, by)

    def test_all_and_lengths_look_at_neither_orders_nor_parts(self):
        for way in ("all", "lengths"):
            for by in (None, [], ["A"], [["A"]]):
                self.assertEqual([(0, 0)], held_between(way, "both", (1, 2), [["a"]], [["a"]], {}, by))

    def test_a_word_that_stands_in_both_lots_is_there_once(self):
        for way, by in (("beginnings", ["b", "a"]), ("parts", [["a"], ["b"]])):
            self.assertEqual([(0, 0)], held_between(way, "both", (1, 2), [["a", "b"]], [["b", "a"]], {}, by))


class HandedIn(unittest.TestCase):

    def test_nothing_is_changed_and_what_is_told_is_new(self):
        for way in WAYS:
            by = by_of(way, ORDER, PARTS)
            for asked in (held_between, found_between):
                handed = deepcopy((ONE, OTHER, WEIGHTS, by))
                told = asked(way, "both", (1, 2), *handed)
                expected = list(told)
                self.assertEqual((ONE, OTHER, WEIGHTS, by), handed)
                told.clear()
                self.assertEqual(expected, asked(way, "both", (1, 2), *handed))
                again = asked(way, "both", (1, 2), *handed)
                handed[0].clear()
                handed[1][0].clear()
                handed[2].clear()
                self.assertEqual(expected, again)

    def test_nothing_hangs_on_the_order_of_words_or_weights(self):
        expected = found_between("places", "both", (1, 2), ONE, OTHER, WEIGHTS, ORDER)
        for words in permutations(ONE[0]):
            one = [list(words)] + ONE[1:]
            self.assertEqual(
                expected, found_between("places", "both", (1, 2), one, OTHER, {"unseen": 7, "b": 2}, ORDER),
            )


if __name__ == "__main__":
    unittest.main()

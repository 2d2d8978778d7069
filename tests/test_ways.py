"""The five ways, what they hold and find, and why two sets are not so much alike: points 2, 4, 7 and 16 to 18."""

import unittest
from copy import deepcopy
from itertools import combinations, permutations

import plainly
from muchalike.errors import NoKind, NoOrder, NoParts, NoSet, NoShare, NoWay, NoWeight
from muchalike.orders import rare_order
from muchalike.parts import even_parts
from muchalike.sets import common, plain_pairs, weight
from muchalike.shares import need
from muchalike.ways import found, held, why_not
from plainly import KINDS, WAYS, some_lots

SOME_LEASTS = ((1, 2), (2, 3), (9, 10), (1, 1))
LOT = [["a", "b", "c", "d"], ["d", "c", "b", "e"], [], ["a", "b", "c", "d"], ["e", "f"], []]
ORDER = ["f", "a", "e", "b", "c", "d"]
PARTS = [["a", "b"], ["c", "d"], ["e", "f"]]
NO_ORDERS = (
    [], ["a", "b", "c", "d", "e"], ORDER[1:], ORDER + ["a"], ["a"] + ORDER, ORDER + ["x", "x"],
    ORDER + ["X"], ORDER + [""], [" "] + ORDER, ORDER + ["x" * 31], ORDER[:-1] + ["d "],
)
NO_PARTS = (
    [], [[]], [[], [], []], PARTS[1:], PARTS[:-1], [["a", "b"], ["c"], ["e", "f"]], PARTS + [["a"]],
    PARTS + PARTS, [["a", "a", "b"], ["c", "d"], ["e", "f"]], PARTS + [["x"], ["x"]], PARTS + [["x", "x"]],
    PARTS + [["X"]], PARTS + [["x"], [""]], [["x y"]] + PARTS, PARTS + [["x" * 31]],
)


def by_of(way, order, parts):
    if way in ("beginnings", "places"):
        return order
    return parts if way == "parts" else None


class Held(unittest.TestCase):

    def test_one_lot_by_each_way(self):
        lot = [["a", "b", "c"], ["a"], ["d", "e"], ["c", "e", "f"], ["b", "c", "e"], []]
        order = ["a", "b", "c", "d", "e", "f"]
        pairs = list(combinations(range(6), 2))
        self.assertEqual(pairs, held("all", "both", (1, 2), lot, {}, None))
        mated = [(0, 2), (0, 3), (0, 4), (1, 2), (2, 3), (2, 4), (3, 4)]
        self.assertEqual(mated, held("lengths", "both", (1, 2), lot, {}, None))
        # The beginnings: a b, a, d e, c e, b c, and none of the empty set.
        self.assertEqual(
            [(0, 4), (2, 3), (3, 4)], held("beginnings", "both", (1, 2), lot, {}, order),
        )
        # At e, the sets of d e and of c e f have the rests 1 and 2, and need 2.
        self.assertEqual([(0, 4), (3, 4)], held("places", "both", (1, 2), lot, {}, order))
        self.assertEqual(
            [(0, 4), (3, 4)],
            held("parts", "both", (1, 2), lot, {}, [["a", "d"], ["b", "f"], ["c"], ["e"]]),
        )

    def test_some_lots_by_each_way(self):
        seen = {way: 0 for way in WAYS}
        for lot, weights, order, parts in some_lots(50):
            for kind in KINDS:
                for least in SOME_LEASTS:
                    for way in WAYS:
                        by = by_of(way, order, parts)
                        expected = plainly.held(way, kind, least, lot, weights, by)
                        self.assertEqual(expected, held(way, kind, least, lot, weights, by))
                        seen[way] += len(expected)
        # Each way shuts out some that another one holds.
        self.assertEqual(5, len(set(seen.values())))
        self.assertGreater(seen["all"], seen["lengths"])
        self.assertGreater(seen["lengths"], seen["beginnings"])
        self.assertGreater(seen["beginnings"], seen["places"])

    def test_lots_without_pairs(self):
        for lot in ([], [[]], [["a"]]):
            for way in WAYS:
                by = by_of(way, ["a", "b"], [["b"], ["a"], []])
                self.assertEqual([], held(way, "both", (1, 2), lot, {}, by))
                self.assertEqual([], found(way, "both", (1, 2), lot, {}, by))

    def test_empty_orders_and_empty_parts_for_lots_without_words(self):
        for way, by in (("beginnings", []), ("places", []), ("parts", [[]]), ("parts", [[], []])):
            for lot in ([], [[]], [[], []]):
                self.assertEqual([], held(way, "lesser", (1, 2), lot, {}, by))

    def test_empty_sets_are_held_by_all_alone(self):
        lot = [[], ["a"], []]
        self.assertEqual([(0, 1), (0, 2), (1, 2)], held("all", "both", (1, 2), lot, {}, None))
        for kind in KINDS:
            for way in WAYS[1:]:
                by = by_of(way, ["a"], [["a"]])
                self.assertEqual([], held(way, kind, (1, 10 ** 20 - 1), lot, {}, by))

    def test_like_sets_are_held_and_found(self):
        words = ["b", "a"]
        for lot in ([words, words], [["a", "b"], ["b", "a"]]):
            for way in WAYS:
                by = by_of(way, ["x", "b", "a"], [["x"], [], ["b"], ["a", "y"]])
                self.assertEqual([(0, 1)], held(way, "both", (1, 1), lot, {}, by))
                self.assertEqual([(0, 1, (1, 1))], found(way, "both", (1, 1), lot, {}, by))

    def test_a_rest_that_is_just_the_need_is_enough(self):
        lot = [["a", "b", "c"], ["b", "c", "d"]]
        order = ["a", "b", "c", "d"]
        # By this share they need 2, which is the rest of the first one at b.
        self.assertEqual([(0, 1)], held("places", "both", (1, 2), lot, {}, order))
        # They need 3 here, and both beginnings still have b.
        lot, weights = [["a", "b", "c"], ["b", "c", "d"]], {"a": 2}
        self.assertEqual([(0, 1)], held("beginnings", "both", (1, 2), lot, weights, order))
        self.assertEqual(3, need("both", (1, 2), 4, 3))
        self.assertEqual([], held("places", "both", (1, 2), lot, weights, order))

    def test_as_many_agreeing_parts_as_must_are_enough(self):
        lot = [["a", "b", "c"], ["b", "c", "d"]]
        # The room is 2, so of four parts two must agree, of three one.
        self.assertEqual([(0, 1)], held("parts", "both", (1, 2), lot, {}, [["a"], ["b"], ["c"], ["d"]]))
        self.assertEqual([(0, 1)], held("parts", "both", (1, 2), lot, {}, [["a"], ["b", "d"], ["c"]]))
        # The room is 0 here.
        self.assertEqual([], held("parts", "both", (1, 1), lot, {}, [["a"], ["b"], ["c"], ["d"]]))
        self.assertEqual([(0, 1)], held("parts", "both", (1, 2), lot, {}, [["a", "b", "c", "d"]]))

    def test_all_and_lengths_look_at_neither_order_nor_parts(self):
        for way in ("all", "lengths"):
            expected = held(way, "both", (1, 2), LOT, {}, None)
            for by in ([], ["a"], [["a"]], ["A", "A"]):
                self.assertEqual(expected, held(way, "both", (1, 2), LOT, {}, by))

    def test_kinds_of_what_is_told(self):
        for way in WAYS:
            told = held(way, "both", (1, 2), LOT, {}, by_of(way, ORDER, PARTS))
            self.assertIs(list, type(told))
            for pair in told:
                self.assertEqual([tuple, int, int], [type(pair)] + [type(number) for number in pair])


class Found(unittest.TestCase):

    def test_each_way_finds_all_that_are_alike_and_no_others(self):
        seen = 0
        for lot, weights, order, parts in some_lots(50):
            for kind in KINDS:
                for least in SOME_LEASTS:
                    expected = plainly.alike(kind, least, lot, weights)
                    self.assertEqual(expected, plain_pairs(kind, least, lot, weights))
                    for way in WAYS:
                        by = by_of(way, order, parts)
                        self.assertEqual(expected, found(way, kind, least, lot, weights, by))
                        pairs = held(way, kind, least, lot, weights, by)
                        self.assertLessEqual({pair[:2] for pair in expected}, set(pairs))
                        seen += len(expected)
        self.assertGreater(seen, 1000)

    def test_great_lots(self):
        lot = [[f"w{at:02d}" for at in range(first, first + 60)] for first in range(40)]
        weights = {f"w{at:02d}": 10 ** 6 - 7 * at for at in range(0, 99, 2)}
        order = rare_order(lot)
        for kind in KINDS:
            for least in ((3, 4), (10 ** 19, 10 ** 20 - 1), (10 ** 20 - 2, 10 ** 20 - 1)):
                expected = plainly.alike(kind, least, lot, weights)
                for way in WAYS:
                    by = by_of(way, order, even_parts(lot, 12))
                    self.assertEqual(expected, found(way, kind, least, lot, weights, by))

    def test_what_is_held_of_great_lots(self):
        lot = [[f"w{at:02d}" for at in range(first, first + 60)] for first in range(40)]
        order = [f"w{at:02d}" for at in range(99)]
        self.assertEqual(45, need("both", (3, 5), 60, 60))
        # So many are left at the first word of both where the numbers are at most 15 apart.
        near = [(i, j) for i, j in combinations(range(40), 2) if j - i <= 15]
        self.assertEqual(near, held("places", "both", (3, 5), lot, {}, order))


class Refused(unittest.TestCase):

    TURNS = (
        (NoKind, "no", (2, 4), [["A"]], {"a": 0}, "no", []),
        (NoKind, "no", (1, 2), LOT, {}, "all", None),
        (NoShare, "both", (2, 4), [["A"]], {"a": 0}, "no", []),
        (NoShare, "both", (0, 1), LOT, {}, "beginnings", []),
        (NoSet, "both", (1, 2), [["A"]], {"a": 0}, "no", []),
        (NoSet, "both", (1, 2), [["a", "a"]], {}, "all", None),
        (NoSet, "both", (1, 2), [["a", "a"]], {}, "beginnings", []),
        (NoSet, "both", (1, 2), [["a", "a"]], {}, "parts", []),
        (NoWeight, "both", (1, 2), LOT, {"a": 0}, "no", []),
        (NoWeight, "both", (1, 2), LOT, {"A": 1}, "lengths", None),
        (NoWeight, "both", (1, 2), LOT, {"a": 0}, "places", []),
        (NoWeight, "both", (1, 2), LOT, {"a": 0}, "parts", []),
    )

    def refuse(self, refusal, way, kind, least, lot, weights, by):
        for ask in (held, found):
            with self.subTest(way=way, kind=kind, least=least, lot=lot, by=by):
                with self.assertRaises(refusal):
                    ask(way, kind, least, lot, weights, by)

    def test_in_turn(self):
        for refusal, kind, least, lot, weights, way, by in self.TURNS:
            self.refuse(refusal, way, kind, least, lot, weights, by)

    def test_other_ways(self):
        for way in ("", "no", "All", "all ", "beginning", "part", "plain", "al", "a", "lengthsplaces"):
            for lot in ([], LOT):
                for by in (None, [], ORDER, PARTS):
                    self.refuse(NoWay, way, "both", (1, 2), lot, {}, by)

    def test_no_orders(self):
        for way in ("beginnings", "places"):
            for order in NO_ORDERS:
                self.refuse(NoOrder, way, "both", (1, 2), LOT, {}, order)
            for order in (["a", "a"], ["A"], [""]):
                self.refuse(NoOrder, way, "both", (1, 2), [], {}, order)

    def test_no_parts(self):
        for parts in NO_PARTS:
            self.refuse(NoParts, "parts", "both", (1, 2), LOT, {}, parts)
        for parts in ([], [["a", "a"]], [["a"], ["a"]], [["A"]], [[], [""]]):
            self.refuse(NoParts, "parts", "both", (1, 2), [], {}, parts)

    def test_orders_and_parts_with_more_words_are_good(self):
        for more in (["x"], ["x", "y.1"], [f"w{at}" for at in range(100)]):
            for order in (ORDER + more, more + ORDER, ORDER[:3] + more + ORDER[3:]):
                for way in ("beginnings", "places"):
                    expected = held(way, "both", (1, 2), LOT, {}, ORDER)
                    self.assertEqual(expected, held(way, "both", (1, 2), LOT, {}, order))
            parts = [PARTS[0] + more[:1], more[1:], PARTS[2], [], PARTS[1]]
            self.assertEqual(
                plainly.held("parts", "both", (1, 2), LOT, {}, parts),
                held("parts", "both", (1, 2), LOT, {}, parts),
            )


class WhyNot(unittest.TestCase):

    ORDER = ["a", "b", "c", "d", "e", "f"]

    def why(self, one, other, kind="both", least=(1, 2), weights={}):
        return why_not(kind, least, one, other, weights, self.ORDER)

    def test_weights_that_are_no_mates(self):
        self.assertEqual(("lengths", 1, 3), self.why(["a"], ["a", "b", "c"]))
        self.assertEqual(("lengths", 3, 1), self.why(["a", "b", "c"], ["a"]))
        self.assertEqual(("lengths", 1, 7), self.why(["a"], ["b"], weights={"b": 7}))

    def test_empty_sets(self):
        for kind in KINDS:
            self.assertEqual(("lengths", 0, 0), self.why([], [], kind))
            self.assertEqual(("lengths", 0, 2), self.why([], ["a", "b"], kind))
            self.assertEqual(("lengths", 2, 0), self.why(["a", "b"], [], kind))

    def test_beginnings_without_a_word_in_common(self):
        self.assertEqual(("beginnings",), self.why(["a"], ["b"]))
        self.assertEqual(("beginnings",), self.why(["a", "b", "e"], ["c", "d", "e"]))

    def test_places(self):
        self.assertEqual(("places", "e", 1), self.why(["d", "e"], ["c", "e", "f"]))
        self.assertEqual(("places", "e", 1), self.why(["c", "e", "f"], ["d", "e"]))

    def test_common(self):
        self.assertEqual(("common", 1, 2), self.why(["a", "b", "c"], ["a", "d", "e"]))
        self.assertEqual(("common", 1, 9), self.why(["a", "b"], ["a", "c"], weights={"b": 9, "c": 8}, least=(9, 10)))

    def test_alike(self):
        words = ["b", "a"]
        self.assertIsNone(self.why(words, words, least=(1, 1)))
        self.assertIsNone(self.why(["a", "b", "c"], ["b", "c", "d"]))

    def test_some_lots(self):
        seen = {}
        for lot, weights, order, _ in some_lots(50):
            for one, other in permutations(lot, 2):
                for kind in KINDS:
                    for least in SOME_LEASTS:
                        told = why_not(kind, least, one, other, weights, order)
                        self.assertEqual(self.expected(kind, least, one, other, weights, order), told)
                        word = told and told[0]
                        seen[word] = seen.get(word, 0) + 1
        self.assertEqual({None, "lengths", "beginnings", "places", "common"}, set(seen))
        self.assertGreater(min(seen.values()), 50)

    def expected(self, kind, least, one, other, weights, order):
        a, b = plainly.weigh(one, weights), plainly.weigh(other, weights)
        if not plainly.is_held("lengths", kind, least, one, other, weights, order):
            return ("lengths", a, b)
        if not plainly.is_held("beginnings", kind, least, one, other, weights, order):
            return ("beginnings",)
        words = plainly.stand([word for word in one if word in other], order)
        rests = [plainly.rest(some, weights, order, words[0]) for some in (one, other)]
        if not plainly.is_held("places", kind, least, one, other, weights, order):
            return ("places", words[0], min(rests))
        needed, both_have = plainly.need(kind, least, a, b), plainly.weigh(words, weights)
        return ("common", both_have, needed) if both_have < needed else None

    def test_refused_in_turn(self):
        for one in ([], ["a"]):
            with self.assertRaises(NoKind):
                why_not("no", (2, 4), one, ["a"], {}, ["a"])
            for least in ((2, 4), (0, 1), (3, 2), (1, 0), (-1, 2)):
                with self.assertRaises(NoShare):
                    why_not("both", least, one, ["a"], {}, ["a"])


class HandedIn(unittest.TestCase):

    def test_nothing_is_changed(self):
        lot, weights, order, parts = deepcopy(LOT), {"b": 2, "a": 3}, ORDER[::-1], deepcopy(PARTS)
        kept = deepcopy((lot, weights, order, parts))
        for way in WAYS:
            for ask in (held, found):
                ask(way, "both", (1, 2), lot, weights, by_of(way, order, parts))
        for one, other in permutations(lot, 2):
            why_not("both", (1, 2), one, other, weights, order)
        self.assertEqual(kept, (lot, weights, order, parts))
        self.assertEqual(["b", "a"], list(weights))

    def test_lists_that_are_told_are_the_askers_own(self):
        for way in WAYS:
            for ask in (held, found):
                by = by_of(way, ORDER, PARTS)
                told, again = ask(way, "both", (1, 2), LOT, {}, by), ask(way, "both", (1, 2), LOT, {}, by)
                told.clear()
                self.assertGreater(len(again), 0)
                self.assertEqual(again, ask(way, "both", (1, 2), LOT, {}, by))

    def test_nothing_hangs_on_the_order_of_words_or_weights(self):
        weights = {"a": 3, "b": 2, "f": 5}
        turned = {word: weights[word] for word in ("f", "b", "a")}
        for words in permutations(LOT[0]):
            lot = [list(words)] + LOT[1:]
            for way in WAYS:
                by = by_of(way, ORDER, PARTS)
                for ask in (held, found):
                    self.assertEqual(
                        ask(way, "mean", (1, 2), LOT, weights, by), ask(way, "mean", (1, 2), lot, turned, by),
                    )

    def test_mates_and_what_both_have_are_by_the_weights(self):
        lot = [["a", "b"], ["b", "c"]]
        for way in WAYS:
            by = by_of(way, ["a", "b", "c"], [["a"], ["b"], ["c"]])
            self.assertEqual([], found(way, "both", (1, 2), lot, {}, by))
            self.assertEqual([(0, 1, (1, 2))], found(way, "both", (1, 2), lot, {"b": 2}, by))
        self.assertEqual((["b"], 2), common(lot[0], lot[1], {"b": 2}))
        self.assertEqual(3, weight(lot[0], {"b": 2}))


if __name__ == "__main__":
    unittest.main()

"""Papers, and the judge that looks at them: points 2, 4, 7, 19 and 20."""

import unittest
from copy import deepcopy
from fractions import Fraction
from itertools import combinations, permutations, product
from random import Random

import plainly
from anything import same, variants
from muchalike.errors import NoKind, NoParts, NoSet, NoShare, NoWay, NoWeight
from muchalike.orders import rare_order
from muchalike.papers import shown, shows_all
from muchalike.parts import even_parts
from muchalike.ways import found, held
from plainly import KINDS, some_lots

PAPER_WAYS = ("all", "beginnings", "parts")
LOT = [["a", "b", "c"], ["b", "c", "d"], [], ["a", "b", "c"], ["e"]]
WEIGHTS = {"b": 2, "unseen": 7}
SIGNS = "abcdefghijklmnopqrstuvwxyz0123456789."


def has_just(things, due):
    if type(things) is not list or len(things) != len(due):
        return False
    return all(any(same(thing, some) for thing in things) for some in due)


def are_unlike_words(texts):
    return all(type(text) is str and 0 < len(text) < 31 and set(text) <= set(SIGNS) for text in texts) and (
        len(set(texts)) == len(texts)
    )


def are_good(texts, lot):
    return are_unlike_words(texts) and {word for words in lot for word in words} <= set(texts)


def due_of(kind, least, lot, weights, head):
    """Tell which pairs a paper with such a head holds, or None where it is no paper's."""
    numbers = list(combinations(range(len(lot)), 2))
    if same(head, ("all",)):
        return numbers
    if len(head) == 2 and same(head[0], "parts"):
        parts = head[1]
        if type(parts) is not list or not parts or any(type(part) is not list for part in parts):
            return None
        if not are_good([text for part in parts for text in part], lot):
            return None
        return plainly.held("parts", kind, least, lot, weights, parts)
    if len(head) == 3 and same(head[0], "beginnings"):
        _, order, ends = head
        if type(order) is not list or not are_good(order, lot):
            return None
        if type(ends) is not list or len(ends) != len(lot) or any(type(end) is not int for end in ends):
            return None
        for words, end in zip(lot, ends):
            if not len(plainly.beginning(kind, least, words, weights, order)) <= end <= len(words):
                return None
        firsts = [plainly.stand(words, order)[:end] for words, end in zip(lot, ends)]
        mated = plainly.held("lengths", kind, least, lot, weights, None)
        return [(i, j) for i, j in mated if plainly.have_common(firsts[i], firsts[j])]
    return None


def with_common(due, lot, weights):
    return [(i, j, plainly.weigh([word for word in lot[i] if word in lot[j]], weights)) for i, j in due]


def judged(kind, least, lot, weights, pairs, paper):
    """Judge by the words of points 19 and 20, one by one."""
    if type(paper) is not tuple or len(paper) < 2:
        return False
    due = due_of(kind, least, lot, weights, paper[:-1])
    if due is None or not has_just(paper[-1], with_common(due, lot, weights)):
        return False
    alike = []
    for i, j in due:
        share = plainly.share(kind, lot[i], lot[j], weights)
        if share >= Fraction(*least):
            alike.append(plainly.pair_of(i, j, share))
    return has_just(pairs, alike)


def paper_of(kind, least, lot, weights, *head):
    """Tell the paper with such a head that holds what it is to hold."""
    return head + (with_common(due_of(kind, least, lot, weights, head), lot, weights),)


class Shown(unittest.TestCase):

    def test_by_all(self):
        pairs, paper = shown("all", "both", (1, 2), LOT, WEIGHTS, 0)
        self.assertEqual([(0, 1, (3, 5)), (0, 3, (1, 1)), (1, 3, (3, 5))], pairs)
        self.assertEqual(
            ("all", [
                (0, 1, 3), (0, 2, 0), (0, 3, 4), (0, 4, 0), (1, 2, 0),
                (1, 3, 3), (1, 4, 0), (2, 3, 0), (2, 4, 0), (3, 4, 0),
            ]),
            paper,
        )

    def test_by_beginnings(self):
        pairs, paper = shown("beginnings", "both", (1, 2), LOT, WEIGHTS, 0)
        self.assertEqual([(0, 1, (3, 5)), (0, 3, (1, 1)), (1, 3, (3, 5))], pairs)
        order = ["d", "e", "a", "b", "c"]
        self.assertEqual(("beginnings", order, [2, 2, 0, 2, 1], [(0, 1, 3), (0, 3, 4), (1, 3, 3)]), paper)

    def test_by_parts(self):
        pairs, paper = shown("parts", "both", (1, 2), LOT, WEIGHTS, 3)
        self.assertEqual([(0, 1, (3, 5)), (0, 3, (1, 1)), (1, 3, (3, 5))], pairs)
        parts = [["a", "d"], ["b", "e"], ["c"]]
        self.assertEqual(("parts", parts, [(0, 1, 3), (0, 3, 4), (1, 3, 3)]), paper)

    def test_of_lots_without_pairs(self):
        for lot in ([], [[]], [["a"]]):
            words = [word for one in lot for word in one]
            self.assertEqual(([], ("all", [])), shown("all", "both", (1, 2), lot, {}, 1))
            ends = [len(one) for one in lot]
            self.assertEqual(([], ("beginnings", words, ends, [])), shown("beginnings", "both", (1, 2), lot, {}, 1))
            self.assertEqual(([], ("parts", [words, []], [])), shown("parts", "both", (1, 2), lot, {}, 2))

    def test_some_lots(self):
        for lot, weights, _, _ in some_lots(25):
            for kind in KINDS:
                for least in ((1, 2), (2, 3), (1, 1)):
                    self.each_way(kind, least, lot, weights)

    def each_way(self, kind, least, lot, weights):
        alike = plainly.alike(kind, least, lot, weights)
        order = rare_order(lot)
        ends = [len(plainly.beginning(kind, least, words, weights, order)) for words in lot]
        for head, many in (
            (("all",), 0), (("beginnings", order, ends), 0),
            (("parts", even_parts(lot, 1)), 1), (("parts", even_parts(lot, 4)), 4),
        ):
            told = shown(head[0], kind, least, lot, weights, many)
            self.assertTrue(same((alike, paper_of(kind, least, lot, weights, *head)), told))
            self.assertIs(True, shows_all(kind, least, lot, weights, *told))
            by = {"all": None, "beginnings": order, "parts": head[-1]}[head[0]]
            self.assertEqual(held(head[0], kind, least, lot, weights, by), [some[:2] for some in told[1][-1]])
            self.assertEqual(found(head[0], kind, least, lot, weights, by), told[0])

    def test_great_lots(self):
        lot = [[f"w{at:02d}" for at in range(first, first + 60)] for first in range(40)]
        weights = {f"w{at:02d}": 10 ** 6 - 7 * at for at in range(0, 99, 2)}
        for kind in KINDS:
            for least in ((3, 4), (10 ** 20 - 2, 10 ** 20 - 1)):
                for way in PAPER_WAYS:
                    told = shown(way, kind, least, lot, weights, 12)
                    self.assertEqual(plainly.alike(kind, least, lot, weights), told[0])
                    self.assertIs(True, shows_all(kind, least, lot, weights, *told))

    def test_how_many_parts_is_looked_at_by_parts_alone(self):
        for way in ("all", "beginnings"):
            told = [shown(way, "both", (1, 2), LOT, {}, many) for many in (-1, 0, 1, 12)]
            self.assertEqual(told[:1] * 4, told)

    def test_refused_in_turn(self):
        for refusal, way, kind, least, lot, weights, many in (
            (NoKind, "no", "no", (2, 4), [["A"]], {"a": 0}, 0),
            (NoKind, "all", "no", (1, 2), LOT, {}, 1),
            (NoShare, "no", "both", (2, 4), [["A"]], {"a": 0}, 0),
            (NoShare, "all", "both", (3, 2), LOT, {}, 1),
            (NoSet, "no", "both", (1, 2), [["A"]], {"a": 0}, 0),
            (NoSet, "parts", "both", (1, 2), [["a", "a"]], {}, 0),
            (NoWeight, "no", "both", (1, 2), LOT, {"a": 0}, 0),
            (NoWeight, "parts", "both", (1, 2), LOT, {"": 1}, 0),
            (NoWay, "no", "both", (1, 2), LOT, {}, 0),
            (NoWay, "", "both", (1, 2), [], {}, 1),
            (NoWay, "lengths", "both", (1, 2), LOT, {}, 1),
            (NoWay, "places", "both", (1, 2), LOT, {}, 1),
            (NoWay, "Parts", "both", (1, 2), LOT, {}, 1),
            (NoParts, "parts", "both", (1, 2), LOT, {}, 0),
            (NoParts, "parts", "both", (1, 2), [], {}, -1),
        ):
            with self.subTest(way=way, kind=kind, least=least, lot=lot, weights=weights, many=many):
                with self.assertRaises(refusal):
                    shown(way, kind, least, lot, weights, many)


class Judge(unittest.TestCase):

    CASES = (
        ("both", (1, 2), LOT, WEIGHTS),
        ("lesser", (1, 1), [["a", "b"], ["b"], ["c"], []], {"a": 3}),
        ("square", (1, 4), [["a", "b"], ["b", "c"], ["b", "a"]], {}),
        ("mean", (1, 2), [], {}),
        ("greater", (1, 2), [[]], {}),
        ("both", (1, 3), [["a"], ["a"]], {"a": 20}),
    )

    def same_as_judged(self, kind, least, lot, weights, pairs, paper):
        told = shows_all(kind, least, lot, weights, pairs, paper)
        self.assertIs(judged(kind, least, lot, weights, pairs, paper), told, (pairs, paper))
        return told

    def test_papers_and_pairs_changed_at_one_place(self):
        seen = {True: 0, False: 0}
        for case in self.CASES:
            for way in PAPER_WAYS:
                pairs, paper = shown(way, *case, 2)
                for other in variants(paper):
                    seen[self.same_as_judged(*case, pairs, other)] += 1
                for other in variants(pairs):
                    seen[self.same_as_judged(*case, other, paper)] += 1
        self.assertGreater(seen[True], 50)
        self.assertGreater(seen[False], 5000)

    def test_any_order_of_pairs_and_of_held_ones(self):
        case = self.CASES[0]
        for way in PAPER_WAYS:
            pairs, paper = shown(way, *case, 2)
            for other in permutations(pairs):
                self.assertIs(True, shows_all(*case, list(other), paper))
            for turned in (paper[-1][::-1], paper[-1][1:] + paper[-1][:1]):
                self.assertIs(True, shows_all(*case, pairs, paper[:-1] + (turned,)))

    def test_any_order_with_any_ends(self):
        lot, seen = [["a", "b", "c"], ["d", "b", "c"], ["c"], ["b", "d"]], {True: 0, False: 0}
        for kind, least in (("both", (1, 2)), ("mean", (3, 4)), ("lesser", (2, 3))):
            pairs = plainly.alike(kind, least, lot, WEIGHTS)
            for order in permutations("abcd"):
                order = list(order)
                firsts = [len(plainly.beginning(kind, least, words, WEIGHTS, order)) for words in lot]
                # The mates that have a word in common among the first ones, for ends good and bad.
                for ends in product((firsts[0] - 1, firsts[0], 3, 4), (firsts[1], 3), (0, 1), (1, 2, 3)):
                    held_ones = self.held_by(kind, least, lot, order, ends)
                    told = ("beginnings", order, list(ends), held_ones)
                    seen[self.same_as_judged(kind, least, lot, WEIGHTS, pairs, told)] += 1
        self.assertGreater(seen[True], 100)
        self.assertGreater(seen[False], 100)

    def held_by(self, kind, least, lot, order, ends):
        firsts = [plainly.stand(words, order)[:end] for words, end in zip(lot, ends)]
        mated = plainly.held("lengths", kind, least, lot, WEIGHTS, None)
        due = [(i, j) for i, j in mated if plainly.have_common(firsts[i], firsts[j])]
        return with_common(due, lot, WEIGHTS)

    def test_longer_ends_hold_more(self):
        case = ("both", (2, 3), [["a", "b"], ["b", "c"]], {})
        order, triples = ["a", "b", "c"], [(0, 1, 1)]
        for ends, held_ones, expected in (
            ([1, 1], [], True), ([1, 1], triples, False),
            ([2, 1], triples, True), ([2, 1], [], False), ([2, 2], triples, True),
            ([0, 1], [], False), ([1, 0], [], False), ([3, 1], triples, False), ([2, 3], triples, False),
        ):
            paper = ("beginnings", order, ends, held_ones)
            self.assertIs(expected, shows_all(*case, [], paper), paper)

    def test_any_order_and_any_parts_of_some_lots(self):
        for lot, weights, order, parts in some_lots(25):
            for kind in KINDS:
                for least in ((1, 2), (2, 3)):
                    case = (kind, least, lot, weights)
                    pairs = plainly.alike(*case)
                    ends = [len(plainly.beginning(kind, least, words, weights, order)) for words in lot]
                    for head in (
                        ("all",), ("parts", parts), ("beginnings", order, ends),
                        ("beginnings", order, [len(words) for words in lot]),
                    ):
                        paper = paper_of(*case, *head)
                        self.assertIs(True, shows_all(*case, pairs, paper))
                        for at in range(len(pairs)):
                            self.assertIs(False, shows_all(*case, pairs[:at] + pairs[at + 1:], paper))

    def test_whatever_is_let_by_are_all_pairs(self):
        lot = [["a", "b"], ["b"], ["a", "b"]]
        case = ("both", (1, 2), lot, {})
        good = plainly.alike(*case)
        papers = [shown(way, *case, 2)[1] for way in PAPER_WAYS]
        for size in range(5):
            for some in product([(i, j, (n, 2)) for i, j in ((0, 1), (0, 2), (1, 2)) for n in (1, 2)], repeat=size):
                expected = sorted(some) == good
                for paper in papers:
                    self.assertIs(expected, shows_all(*case, list(some), paper))

    def test_orders_and_parts_that_are_none(self):
        for case in self.CASES:
            lot = case[2]
            pairs = shown("all", *case, 1)[0]
            words = rare_order(lot)
            for texts in (words[1:], words + ["x", "x"], words + ["X"], words + [""], words + words):
                if texts == words:
                    continue
                everything = [len(one) for one in lot]
                for due in (held("all", *case, None), held("lengths", *case, None), found("all", *case, None)):
                    triples = with_common([pair[:2] for pair in due], lot, case[3])
                    for paper in (
                        ("beginnings", texts, everything, triples), ("parts", [texts], triples),
                        ("parts", [texts[:1], texts[1:], []], triples),
                    ):
                        self.same_as_judged(*case, pairs, paper)
                        if texts:
                            self.assertIs(False, shows_all(*case, pairs, paper))
            self.assertIs(False, shows_all(*case, pairs, ("parts", [], [])))

    def test_more_words_in_orders_and_parts_are_good(self):
        for case in self.CASES:
            pairs = shown("all", *case, 1)[0]
            words = rare_order(case[2])
            for order in (["x"] + words, words + ["y", "z.9"], words[::-1] + ["0"]):
                everything = [len(one) for one in case[2]]
                paper = paper_of(*case, "beginnings", order, everything)
                self.assertIs(True, shows_all(*case, pairs, paper))
                paper = paper_of(*case, "parts", [[], order[:1], [], order[1:]])
                self.assertIs(True, shows_all(*case, pairs, paper))

    def test_anything_at_all(self):
        chance = Random(7)

        def anything(deep):
            small = [0, 1, 2, -1, 10 ** 39, True, False, None, "", "a", "all", "parts", "beginnings", "~ ."]
            if deep == 0 or chance.random() < 0.3:
                return chance.choice(small)
            return chance.choice((list, tuple))(anything(deep - 1) for _ in range(chance.randint(0, 4)))

        for case in self.CASES:
            pairs, paper = shown("beginnings", *case, 1)
            for deep in range(11):
                for _ in range(40):
                    thing = anything(deep)
                    self.same_as_judged(*case, pairs, thing)
                    self.same_as_judged(*case, thing, paper)
                    self.same_as_judged(*case, thing, ("all", thing))
                    self.same_as_judged(*case, pairs, ("parts", thing, []))
                    self.same_as_judged(*case, pairs, ("beginnings", paper[1], thing, paper[3]))
                    self.same_as_judged(*case, pairs, ("beginnings", thing, paper[2], paper[3]))

    def test_long_lists(self):
        case = self.CASES[0]
        pairs, paper = shown("all", *case, 1)
        long = [(0, 1, number) for number in range(2000)]
        self.assertIs(False, shows_all(*case, pairs, ("all", long)))
        self.assertIs(False, shows_all(*case, long, paper))
        self.assertIs(False, shows_all(*case, pairs, ("parts", [["a"]] * 2000, paper[-1])))
        order = rare_order(LOT) + [f"w{at}" for at in range(1990)]
        paper = paper_of(*case, "beginnings", order, [len(words) for words in LOT])
        self.assertIs(True, shows_all(*case, pairs, paper))

    def test_one_thing_in_several_places(self):
        words = ["a", "b"]
        lot = [words, words, words]
        case = ("both", (1, 1), lot, {})
        share = (1, 1)
        pairs = [(0, 1, share), (0, 2, share), (1, 2, share)]
        held_ones = [(0, 1, 2), (0, 2, 2), (1, 2, 2)]
        self.assertIs(True, shows_all(*case, pairs, ("all", held_ones)))
        self.assertIs(True, shows_all(*case, pairs, ("beginnings", words, [1, 1, 2], held_ones)))
        self.assertIs(True, shows_all(*case, pairs, ("parts", [words], held_ones)))
        self.assertIs(False, shows_all(*case, pairs, ("parts", [words, words], held_ones)))
        self.assertIs(False, shows_all(*case, pairs, ("all", pairs)))


class HandedIn(unittest.TestCase):

    def test_nothing_is_changed(self):
        lot, weights = deepcopy(LOT), dict(WEIGHTS)
        for way in PAPER_WAYS:
            pairs, paper = shown(way, "both", (1, 2), lot, weights, 2)
            told = (pairs[::-1], paper[:-1] + (paper[-1][::-1],))
            kept = deepcopy(told)
            self.assertTrue(shows_all("both", (1, 2), lot, weights, *told))
            self.assertEqual(kept, told)
        self.assertEqual((LOT, WEIGHTS), (lot, weights))
        self.assertEqual(list(WEIGHTS), list(weights))

    def test_lists_that_are_told_are_the_askers_own(self):
        lot = deepcopy(LOT)
        for way in PAPER_WAYS:
            told, again = (shown(way, "both", (1, 2), lot, {}, 7) for _ in range(2))
            lists = [told[0]] + [thing for thing in told[1] if isinstance(thing, list)]
            lists += [thing for one in lists for thing in one if isinstance(thing, list)]
            self.assertEqual(len(lists), len({id(one) for one in lists}))
            for one in lists:
                one.clear()
            self.assertTrue(shows_all("both", (1, 2), lot, {}, *again))
            self.assertEqual(again, shown(way, "both", (1, 2), lot, {}, 7))
        self.assertEqual(LOT, lot)

    def test_nothing_hangs_on_the_order_of_words_or_weights(self):
        turned = {word: WEIGHTS[word] for word in reversed(list(WEIGHTS))}
        for words in permutations(LOT[0]):
            lot = [list(words)] + LOT[1:]
            for way in PAPER_WAYS:
                told = shown(way, "both", (1, 2), lot, turned, 2)
                self.assertEqual(shown(way, "both", (1, 2), LOT, WEIGHTS, 2), told)
                self.assertTrue(shows_all("both", (1, 2), LOT, WEIGHTS, *told))


if __name__ == "__main__":
    unittest.main()

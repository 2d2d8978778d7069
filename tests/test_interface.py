"""The names, arguments and files that the interface lists."""

import inspect
import unittest

from muchalike import (
    bags, between, changes, desk, groups, keeper, nearest, orders, papers, parts, sets, shares, steps, teller, texts,
    ways, within,
)

LISTED = (
    (shares, "share_of", ["kind", "a", "b", "c"]),
    (shares, "need", ["kind", "least", "a", "b"]),
    (shares, "mates", ["kind", "least", "a"]),
    (shares, "least_need", ["kind", "least", "a"]),
    (sets, "check_lot", ["lot", "weights"]),
    (sets, "weight", ["words", "weights"]),
    (sets, "common", ["one", "other", "weights"]),
    (sets, "plain_pairs", ["kind", "least", "lot", "weights"]),
    (orders, "rare_order", ["lot"]),
    (orders, "beginning", ["kind", "least", "words", "weights", "order"]),
    (orders, "rest", ["words", "weights", "order", "word"]),
    (parts, "even_parts", ["lot", "many"]),
    (parts, "agree", ["one", "other", "parts"]),
    (parts, "must_agree", ["kind", "least", "a", "b", "many"]),
    (ways, "held", ["way", "kind", "least", "lot", "weights", "by"]),
    (ways, "found", ["way", "kind", "least", "lot", "weights", "by"]),
    (ways, "why_not", ["kind", "least", "one", "other", "weights", "order"]),
    (papers, "shown", ["way", "kind", "least", "lot", "weights", "many"]),
    (papers, "shows_all", ["kind", "least", "lot", "weights", "pairs", "paper"]),
    (groups, "groups", ["pairs", "many"]),
    (groups, "chain", ["pairs", "many", "i", "j"]),
    (groups, "is_chain", ["pairs", "some"]),
    (groups, "is_closed", ["pairs", "some"]),
    (bags, "bag_common", ["one", "other", "weights"]),
    (bags, "bag_share", ["kind", "one", "other", "weights"]),
    (bags, "spread", ["bag"]),
    (bags, "spread_weights", ["bags", "weights"]),
    (within, "within_pairs", ["lot"]),
    (within, "tops", ["lot"]),
    (changes, "pieces", ["text", "size"]),
    (changes, "changed", ["text", "changes"]),
    (changes, "apart", ["one", "other"]),
    (changes, "is_table", ["one", "other", "table"]),
    (changes, "near_pairs", ["texts", "most", "size"]),
    (texts, "set_text", ["words"]),
    (texts, "share_text", ["share"]),
    (texts, "lot_text", ["lot"]),
    (texts, "paper_text", ["pairs", "paper"]),
    (texts, "read_lot", ["text"]),
    (texts, "read_paper", ["text"]),
    (between, "held_between", ["way", "kind", "least", "one", "other", "weights", "by"]),
    (between, "found_between", ["way", "kind", "least", "one", "other", "weights", "by"]),
    (nearest, "nearest", ["kind", "lot", "weights", "i", "many"]),
    (nearest, "friends", ["kind", "lot", "weights"]),
    (steps, "steps", ["kind", "lot", "weights"]),
)
CLASSES = (
    (teller, "Teller", ["kind", "lot", "weights"], {"tell": [], "held": []}),
    (keeper, "Keeper", ["kind", "least", "weights", "order"], {
        "add": ["name", "words"], "drop": ["name"], "weigh": ["word", "number"],
        "pairs": [], "held": [], "names": [], "order": [],
    }),
    (desk, "Desk", [], {"say": ["row"]}),
)


class Interface(unittest.TestCase):

    def test_each_takes_the_arguments_that_are_listed(self):
        for module, name, arguments in LISTED:
            with self.subTest(name):
                signature = inspect.signature(getattr(module, name))
                self.assertEqual(arguments, list(signature.parameters))

    def test_each_is_a_function_defined_in_its_own_file(self):
        for module, name, _ in LISTED:
            with self.subTest(name):
                self.assertTrue(inspect.isfunction(getattr(module, name)))
                self.assertEqual(module.__name__, getattr(module, name).__module__)

    def test_each_class_is_defined_in_its_own_file(self):
        for module, name, arguments, _ in CLASSES:
            with self.subTest(name):
                listed = getattr(module, name)
                self.assertTrue(inspect.isclass(listed))
                self.assertEqual(module.__name__, listed.__module__)
                self.assertEqual(arguments, list(inspect.signature(listed).parameters))

    def test_each_method_is_defined_in_its_own_class(self):
        for module, name, _, methods in CLASSES:
            for method, arguments in methods.items():
                with self.subTest(name=name, method=method):
                    own = vars(getattr(module, name))[method]
                    self.assertTrue(inspect.isfunction(own))
                    self.assertEqual(["self"] + arguments, list(inspect.signature(own).parameters))

    def test_arguments_may_be_handed_in_by_their_names(self):
        self.assertEqual((1, 3), shares.share_of(kind="both", a=2, b=2, c=1))
        self.assertEqual(2, shares.need(kind="both", least=(1, 2), a=2, b=3))
        self.assertEqual((1, 4), shares.mates(kind="both", least=(1, 2), a=2))
        self.assertEqual(1, shares.least_need(kind="both", least=(1, 2), a=2))
        self.assertIsNone(sets.check_lot(lot=[["a"]], weights={"a": 2}))
        self.assertEqual(2, sets.weight(words=["a"], weights={"a": 2}))
        self.assertEqual((["a"], 2), sets.common(one=["a"], other=["a"], weights={"a": 2}))
        pairs = sets.plain_pairs(kind="both", least=(1, 1), lot=[["a"], ["a"]], weights={})
        self.assertEqual([(0, 1, (1, 1))], pairs)

    def test_arguments_of_orders_to_papers_may_be_handed_in_by_their_names(self):
        lot, pairs, half = [["a"], ["a"]], [(0, 1, (1, 1))], {"kind": "both", "least": (1, 2)}
        self.assertEqual(["a"], orders.rare_order(lot=lot))
        self.assertEqual(["a"], orders.beginning(words=["a"], weights={}, order=["a"], **half))
        self.assertEqual(1, orders.rest(words=["a"], weights={}, order=["a"], word="a"))
        self.assertEqual([["a"]], parts.even_parts(lot=lot, many=1))
        self.assertEqual([0], parts.agree(one=["a"], other=["a"], parts=[["a"]]))
        self.assertEqual(1, parts.must_agree(a=1, b=1, many=1, **half))
        self.assertEqual([(0, 1)], ways.held(way="all", lot=lot, weights={}, by=None, **half))
        self.assertEqual(pairs, ways.found(way="all", lot=lot, weights={}, by=None, **half))
        self.assertIsNone(ways.why_not(one=["a"], other=["a"], weights={}, order=["a"], **half))
        paper = ("all", [(0, 1, 1)])
        self.assertEqual((pairs, paper), papers.shown(way="all", lot=lot, weights={}, many=1, **half))
        self.assertTrue(papers.shows_all(lot=lot, weights={}, pairs=pairs, paper=paper, **half))

    def test_arguments_of_tellers_keepers_and_groups_may_be_handed_in_by_their_names(self):
        self.assertIsNone(teller.Teller(kind="both", lot=[], weights={}).tell())
        kept = keeper.Keeper(kind="both", least=(1, 2), weights={}, order=[])
        self.assertEqual([], kept.add(name="n", words=["a"]))
        self.assertIsNone(kept.weigh(word="a", number=2))
        self.assertEqual(["a"], kept.drop(name="n"))
        self.assertEqual([[0, 1]], groups.groups(pairs=[(0, 1)], many=2))
        self.assertEqual([1, 0], groups.chain(pairs=[(0, 1)], many=2, i=1, j=0))
        self.assertIs(True, groups.is_chain(pairs=[(0, 1)], some=[1, 0]))
        self.assertIs(True, groups.is_closed(pairs=[(0, 1)], some=[1, 0]))

    def test_arguments_of_bags_to_texts_may_be_handed_in_by_their_names(self):
        self.assertEqual(2, bags.bag_common(one=["a"], other=["a"], weights={"a": 2}))
        self.assertEqual((1, 1), bags.bag_share(kind="both", one=["a"], other=["a"], weights={}))
        self.assertEqual(["a.1"], bags.spread(bag=["a"]))
        self.assertEqual({"a.1": 2}, bags.spread_weights(bags=[["a"]], weights={"a": 2}))
        self.assertEqual([(1, 0)], within.within_pairs(lot=[["a"], []]))
        self.assertEqual([0], within.tops(lot=[["a"], []]))
        self.assertEqual(["ab"], changes.pieces(text="ab", size=2))
        self.assertEqual("b", changes.changed(text="ab", changes=[("out", 0)]))
        self.assertEqual((0, [], [[0]]), changes.apart(one="", other=""))
        self.assertIs(True, changes.is_table(one="", other="", table=[[0]]))
        self.assertEqual(([(0, 1, 0)], [(0, 1)]), changes.near_pairs(texts=["a", "a"], most=0, size=1))
        self.assertEqual("a", texts.set_text(words=["a"]))
        self.assertEqual("1/2", texts.share_text(share=(1, 2)))
        self.assertEqual("lot\na", texts.lot_text(lot=[["a"]]))
        self.assertEqual("all", texts.paper_text(pairs=[], paper=("all", [])))
        self.assertEqual([["a"]], texts.read_lot(text="lot\na"))
        self.assertEqual(([], ("all", [])), texts.read_paper(text="all"))

    def test_arguments_of_the_desk_to_steps_may_be_handed_in_by_their_names(self):
        self.assertEqual("0", desk.Desk().say(row="count"))
        asked = {"kind": "both", "least": (1, 2), "one": [["a"]], "other": [["a"]], "weights": {}, "by": ["a"]}
        self.assertEqual([(0, 0)], between.held_between(way="places", **asked))
        self.assertEqual([(0, 0, (1, 1))], between.found_between(way="places", **asked))
        lot = [["a"], ["a"]]
        self.assertEqual(([(0, (1, 1))], [0]), nearest.nearest(kind="both", lot=lot, weights={}, i=1, many=1))
        self.assertEqual([(0, 1, (1, 1))], nearest.friends(kind="both", lot=lot, weights={}))
        self.assertEqual([((1, 1), 1, 1)], steps.steps(kind="both", lot=lot, weights={}))


if __name__ == "__main__":
    unittest.main()

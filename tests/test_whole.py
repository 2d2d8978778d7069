"""What is promised over the whole program: points 2 and 4."""

import unittest
from copy import deepcopy
from fractions import Fraction

import plainly
from muchalike.between import found_between
from muchalike.changes import apart
from muchalike.desk import Desk
from muchalike.groups import chain, groups, is_chain, is_closed
from muchalike.keeper import Keeper
from muchalike.nearest import friends, nearest
from muchalike.orders import rare_order
from muchalike.papers import shown, shows_all
from muchalike.parts import even_parts
from muchalike.sets import plain_pairs
from muchalike.steps import steps
from muchalike.teller import Teller
from muchalike.texts import lot_text, paper_text, share_text
from muchalike.ways import found, held
from plainly import KINDS, WAYS, some_lots
from test_interface import CLASSES, LISTED

LOT = [["c", "b", "a"], ["b", "d", "c"], [], ["a", "c", "b"], ["e"]]
WEIGHTS = {"b": 2, "z": 7, "a": 3}
ORDER = ["e", "x", "d", "c", "b", "a"]
PARTS = [["e", "a"], [], ["x", "c", "b"], ["d"]]
HALF = {"kind": "both", "least": (1, 2)}
PAIRS, PAPER = shown("beginnings", "both", (1, 2), LOT, WEIGHTS, 0)
TABLE = apart("kitten", "sitting")[2]
LINKED = [(3, 1), (1, 0), (2, 4, "x"), (0, 3)]
# With which arguments each function is asked.
ASKED = {
    "share_of": {"kind": "both", "a": 6, "b": 4, "c": 2}, "need": {"a": 6, "b": 4, **HALF}, "mates": {"a": 6, **HALF},
    "least_need": {"a": 6, **HALF}, "check_lot": {"lot": LOT, "weights": WEIGHTS},
    "weight": {"words": LOT[0], "weights": WEIGHTS}, "common": {"one": LOT[0], "other": LOT[1], "weights": WEIGHTS},
    "plain_pairs": {"lot": LOT, "weights": WEIGHTS, **HALF}, "rare_order": {"lot": LOT},
    "beginning": {"words": LOT[0], "weights": WEIGHTS, "order": ORDER, **HALF},
    "rest": {"words": LOT[0], "weights": WEIGHTS, "order": ORDER, "word": "b"}, "even_parts": {"lot": LOT, "many": 7},
    "agree": {"one": LOT[0], "other": LOT[1], "parts": PARTS}, "must_agree": {"a": 6, "b": 4, "many": 4, **HALF},
    "held": {"way": "places", "lot": LOT, "weights": WEIGHTS, "by": ORDER, **HALF},
    "found": {"way": "parts", "lot": LOT, "weights": WEIGHTS, "by": PARTS, **HALF},
    "why_not": {"one": LOT[0], "other": LOT[1], "weights": WEIGHTS, "order": ORDER, **HALF},
    "shown": {"way": "parts", "lot": LOT, "weights": WEIGHTS, "many": 7, **HALF},
    "shows_all": {"lot": LOT, "weights": WEIGHTS, "pairs": PAIRS, "paper": PAPER, **HALF},
    "groups": {"pairs": LINKED, "many": 6}, "chain": {"pairs": LINKED, "many": 6, "i": 3, "j": 0},
    "is_chain": {"pairs": LINKED, "some": [3, 0, 1]}, "is_closed": {"pairs": LINKED, "some": [3, 0, 1]},
    "bag_common": {"one": ["b", "a", "b"], "other": ["b"], "weights": WEIGHTS},
    "bag_share": {"kind": "mean", "one": ["b", "a", "b"], "other": ["b"], "weights": WEIGHTS},
    "spread": {"bag": ["b", "a", "b"]}, "spread_weights": {"bags": [["b", "a", "b"], ["c"]], "weights": WEIGHTS},
    "within_pairs": {"lot": LOT}, "tops": {"lot": LOT}, "pieces": {"text": "banana", "size": 2},
    "changed": {"text": "ab", "changes": [("in", 1, "c"), ("out", 0)]}, "apart": {"one": "kitten", "other": "sitting"},
    "is_table": {"one": "kitten", "other": "sitting", "table": TABLE},
    "near_pairs": {"texts": ["abc", "abd", "x", "abc"], "most": 1, "size": 2}, "set_text": {"words": LOT[0]},
    "share_text": {"share": (1, 2)}, "lot_text": {"lot": LOT}, "paper_text": {"pairs": PAIRS, "paper": PAPER},
    "read_lot": {"text": lot_text(LOT + LOT)}, "read_paper": {"text": paper_text(PAIRS, PAPER)},
    "held_between": {"way": "places", "one": LOT, "other": LOT[1:], "weights": WEIGHTS, "by": ORDER, **HALF},
    "found_between": {"way": "parts", "one": LOT, "other": LOT[1:], "weights": WEIGHTS, "by": PARTS, **HALF},
    "nearest": {"kind": "mean", "lot": LOT, "weights": WEIGHTS, "i": 1, "many": 1},
    "friends": {"kind": "mean", "lot": LOT, "weights": WEIGHTS},
    "steps": {"kind": "mean", "lot": LOT, "weights": WEIGHTS},
}


def lists_in(thing):
    """Tell all lists and dicts that stand somewhere in a thing."""
    if isinstance(thing, (list, dict)):
        yield thing
    if isinstance(thing, (list, tuple)):
        for part in thing:
            yield from lists_in(part)
    if isinstance(thing, dict):
        for part in thing.values():
            yield from lists_in(part)


class HandedIn(unittest.TestCase):

    def test_each_function_is_asked(self):
        self.assertEqual({name for _, name, _ in LISTED}, set(ASKED))

    def test_nothing_is_changed_and_what_is_told_is_the_askers_own(self):
        for module, name, arguments in LISTED:
            with self.subTest(name):
                asks = getattr(module, name)
                handed = deepcopy(ASKED[name])
                self.assertEqual(sorted(arguments), sorted(handed))
                told = asks(**handed)
                self.assertEqual(repr(ASKED[name]), repr(handed))
                expected = deepcopy(told)
                own = list(lists_in(told))
                self.assertEqual(len(own), len({id(some) for some in own}))
                self.assertFalse({id(some) for some in own} & {id(some) for some in lists_in(handed)})
                for some in own:
                    some.clear()
                self.assertEqual(repr(ASKED[name]), repr(handed))
                again = asks(**handed)
                self.assertEqual(repr(expected), repr(again))
                for some in lists_in(list(handed.values())):
                    some.clear()
                self.assertEqual(repr(expected), repr(again))

    def test_arguments_may_be_handed_in_by_their_places(self):
        for module, name, arguments in LISTED:
            with self.subTest(name):
                asks, handed = getattr(module, name), deepcopy(ASKED[name])
                self.assertEqual(asks(**handed), asks(*[handed[argument] for argument in arguments]))

    def test_what_objects_tell_is_the_askers_own(self):
        keeper, teller = Keeper("both", (1, 2), WEIGHTS, ORDER), Teller("both", LOT, WEIGHTS)
        asked = {
            "Keeper": {
                "add": lambda: keeper.add("n", ["b", "a"]), "drop": lambda: keeper.drop("n"),
                "weigh": lambda: keeper.weigh("q", 2), "pairs": keeper.pairs, "held": keeper.held,
                "names": keeper.names, "order": keeper.order,
            },
            "Teller": {"tell": teller.tell, "held": teller.held}, "Desk": {"say": lambda: Desk().say("count")},
        }
        self.assertEqual({name: set(methods) for _, name, _, methods in CLASSES}, {
            name: set(methods) for name, methods in asked.items()
        })
        keeper.add("m", ["c", "b", "a"])
        keeper.add("k", ["b", "q"])
        for name in ("held", "names", "order", "pairs", "add", "drop"):
            asks = asked["Keeper"][name]
            told = asks()
            expected = list(told)
            self.assertIs(list, type(told))
            told.clear()
            if name in ("add", "drop"):
                asked["Keeper"]["drop" if name == "add" else "add"]()
            self.assertEqual(expected, asks())
        teller.tell()
        expected = teller.held()
        teller.held().clear()
        self.assertEqual(expected, teller.held())


class ThePromise(unittest.TestCase):

    LOTS = [lot for lot in some_lots(40) if len(lot[0]) > 1][:20]

    def each(self):
        for lot, weights, order, parts in self.LOTS:
            for kind in KINDS:
                for least in ((1, 2), (2, 5), (1, 1)):
                    yield kind, least, lot, weights, order, parts, plainly.alike(kind, least, lot, weights)

    def test_each_way_and_each_paper_tells_all_pairs(self):
        for kind, least, lot, weights, order, parts, pairs in self.each():
            self.assertEqual(pairs, plain_pairs(kind, least, lot, weights))
            for way in WAYS:
                for by in (parts, even_parts(lot, 3)) if way == "parts" else (order, rare_order(lot)):
                    self.assertEqual(pairs, found(way, kind, least, lot, weights, by))
                    let = held(way, kind, least, lot, weights, by)
                    self.assertEqual(plainly.held(way, kind, least, lot, weights, by), let)
                    self.assertLessEqual({pair[:2] for pair in pairs}, set(let))
            for way in ("all", "beginnings", "parts"):
                told, paper = shown(way, kind, least, lot, weights, 3)
                self.assertEqual(pairs, told)
                self.assertIs(True, shows_all(kind, least, lot, weights, told, paper))
                for at in range(len(pairs)):
                    self.assertIs(False, shows_all(kind, least, lot, weights, pairs[:at] + pairs[at + 1:], paper))

    def test_teller_keeper_and_two_lots_tell_the_same(self):
        for kind, least, lot, weights, order, _, pairs in self.each():
            teller, told = Teller(kind, lot, weights), []
            while (pair := teller.tell()) is not None:
                told.append(pair)
            self.assertEqual(sorted(told, key=lambda pair: (-Fraction(*pair[2]), pair[:2])), told)
            self.assertEqual(pairs, sorted(pair for pair in told if Fraction(*pair[2]) >= Fraction(*least)))
            keeper = Keeper(kind, least, weights, order)
            for at, words in enumerate(lot):
                alike = keeper.add(f"n.{at + 10}", words)
                self.assertEqual([(f"n.{i + 10}", share) for i, j, share in pairs if j == at], alike)
            self.assertEqual([(f"n.{i + 10}", f"n.{j + 10}", share) for i, j, share in pairs], keeper.pairs())
            between = found_between("places", kind, least, lot, lot, weights, order)
            self.assertEqual(pairs, [pair for pair in between if pair[0] < pair[1]])

    def test_groups_nearest_friends_and_steps_agree_with_the_pairs(self):
        for kind, least, lot, weights, _, _, pairs in self.each():
            together = groups(pairs, len(lot))
            for group in together:
                self.assertIs(True, is_closed(pairs, group))
                for i in group:
                    self.assertIs(True, is_chain(pairs, chain(pairs, len(lot), i, group[0])))
            for share, many, in_groups in steps(kind, lot, weights):
                alike = plain_pairs(kind, share, lot, weights)
                self.assertEqual((many, in_groups), (len(alike), len(groups(alike, len(lot)))))
                if share == least:
                    self.assertEqual((len(pairs), len(together)), (many, in_groups))
            for i, j, share in friends(kind, lot, weights):
                self.assertEqual([(j, share)], nearest(kind, lot, weights, i, 1)[0])
                self.assertEqual([(i, share)], nearest(kind, lot, weights, j, 1)[0])
            for i in range(len(lot)):
                told = nearest(kind, lot, weights, i, len(lot))[0]
                near = [(min(i, j), max(i, j), share) for j, share in told if Fraction(*share) >= Fraction(*least)]
                self.assertEqual(sorted(near), [pair for pair in pairs if i in pair[:2]])

    def test_the_desk_tells_the_same(self):
        for kind, least, lot, weights, _, _, pairs in self.each():
            desk = Desk()
            for row in [f"kind {kind}", f"least {share_text(least)}", lot_text(lot)]:
                desk.say(row)
            for word, number in weights.items():
                desk.say(f"weigh {word} {number}")
            expected = "; ".join(f"{i} {j} {share_text(share)}" for i, j, share in pairs) or "none"
            for way in ("all", "lengths", "beginnings", "places", "parts 1", "parts 5"):
                self.assertEqual(expected, desk.say(f"pairs {way}"))
            for way in ("all", "beginnings", "parts 4"):
                self.assertEqual("yes", desk.say("looks " + desk.say(f"paper {way}")))


if __name__ == "__main__":
    unittest.main()

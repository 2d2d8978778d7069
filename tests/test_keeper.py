"""A keeper of sets that come and go: points 2, 4, 7, 8, 11, 12 and 22."""

import unittest
from fractions import Fraction
from itertools import permutations
from random import Random

import plainly
from muchalike.errors import LikeError, NoKind, NoName, NoOrder, NoSet, NoShare, NoWeight
from muchalike.keeper import Keeper
from muchalike.sets import plain_pairs
from plainly import KINDS

NO_WORDS = ("", " ", "A", "a b", "a-b", "-", "a\n", "x" * 31)


class Kept:
    """What point 22 says of a keeper, reckoned plainly."""

    def __init__(self, kind, least, weights, order):
        self.rule = (kind, least)
        self.weights = dict(weights)
        self.words = list(order)
        self.sets = {}
        self.last = []

    def alike(self, one, other):
        share = plainly.share(self.rule[0], one, other, self.weights)
        return (share.numerator, share.denominator) if share >= Fraction(*self.rule[1]) else None

    def add(self, name, words):
        self.words += sorted(word for word in words if word not in self.words)
        told = [(other, self.alike(words, self.sets[other])) for other in sorted(self.sets)]
        self.last = [
            other for other in sorted(self.sets)
            if plainly.is_held("beginnings", *self.rule, self.sets[other], words, self.weights, self.words)
        ]
        self.sets[name] = words
        return [some for some in told if some[1] is not None]

    def drop(self, name):
        return sorted(self.sets.pop(name))

    def weigh(self, word, number):
        self.weights[word] = number

    def pairs(self):
        told = [
            (name, other, self.alike(self.sets[name], self.sets[other]))
            for name in sorted(self.sets) for other in sorted(self.sets) if name < other
        ]
        return [some for some in told if some[2] is not None]

    def whole(self):
        return (self.pairs(), self.last, sorted(self.sets), self.words)


def whole_of(keeper):
    return (keeper.pairs(), keeper.held(), keeper.names(), keeper.order())


def filled():
    keeper = Keeper("both", (1, 2), {"a": 2}, ["c", "b"])
    keeper.add("one", ["a", "b"])
    keeper.add("two", ["b", "a", "c"])
    keeper.add("none", [])
    keeper.add("three", ["b", "z"])
    return keeper


class Deeds(unittest.TestCase):

    def test_one_keeper(self):
        keeper = Keeper("both", (1, 2), {"a": 2}, ["c", "b"])
        self.assertEqual(([], [], [], ["c", "b"]), whole_of(keeper))
        self.assertEqual([], keeper.add("two", ["a", "b"]))
        self.assertEqual(([], [], ["two"], ["c", "b", "a"]), whole_of(keeper))
        self.assertEqual([("two", (3, 4))], keeper.add("one", ["c", "b", "a"]))
        self.assertEqual(
            ([("one", "two", (3, 4))], ["two"], ["one", "two"], ["c", "b", "a"]), whole_of(keeper),
        )
        self.assertEqual([("one", (1, 2)), ("two", (2, 3))], keeper.add("ten", ["a"]))
        self.assertEqual(
            [("one", "ten", (1, 2)), ("one", "two", (3, 4)), ("ten", "two", (2, 3))], keeper.pairs(),
        )
        self.assertEqual(["a", "b", "c"], keeper.drop("one"))
        self.assertEqual([("ten", "two", (2, 3))], keeper.pairs())
        self.assertIsNone(keeper.weigh("a", 1))
        self.assertEqual([("ten", "two", (1, 2))], keeper.pairs())
        self.assertIsNone(keeper.weigh("b", 2))
        self.assertEqual([], keeper.pairs())
        self.assertEqual((["one", "two"], ["ten", "two"]), (keeper.held(), keeper.names()))

    def test_names_stand_in_the_order_of_texts(self):
        keeper = Keeper("both", (1, 1), {}, [])
        for name in ("b", "a.2", "z", "a.10", ".", "9"):
            told = keeper.add(name, ["w"])
        names = [".", "9", "a.10", "a.2", "b", "z"]
        self.assertEqual(names, keeper.names())
        self.assertEqual([(name, (1, 1)) for name in names if name != "9"], told)
        self.assertEqual([name for name in names if name != "9"], keeper.held())
        expected = [(one, other, (1, 1)) for at, one in enumerate(names) for other in names[at + 1:]]
        self.assertEqual(expected, keeper.pairs())

    def test_a_name_may_be_taken_again_once_it_is_dropped(self):
        keeper = Keeper("both", (1, 2), {}, [])
        self.assertEqual([], keeper.add("n", ["a"]))
        self.assertEqual(["a"], keeper.drop("n"))
        self.assertEqual([], keeper.add("n", ["b", "a"]))
        self.assertEqual([("n", (1, 2))], keeper.add("m", ["a"]))
        self.assertEqual(["a", "b"], keeper.drop("n"))
        with self.assertRaises(NoName):
            keeper.drop("n")
        self.assertEqual([("m", (1, 1))], keeper.add("n", ["a"]))
        self.assertEqual([("m", "n", (1, 1))], keeper.pairs())

    def test_words_of_an_added_set_come_behind_the_order(self):
        keeper = Keeper("both", (1, 2), {}, ["m", "b"])
        keeper.add("one", ["z", "b", "a.2", "a.10"])
        self.assertEqual(["m", "b", "a.10", "a.2", "z"], keeper.order())
        keeper.add("two", ["z", "c", "a"])
        self.assertEqual(["m", "b", "a.10", "a.2", "z", "a", "c"], keeper.order())
        keeper.add("three", [])
        keeper.add("four", ["b", "c"])
        self.assertEqual(["m", "b", "a.10", "a.2", "z", "a", "c"], keeper.order())

    def test_words_of_a_dropped_set_stay_in_the_order(self):
        keeper = Keeper("both", (1, 2), {}, [])
        keeper.add("one", ["b"])
        keeper.add("two", ["a"])
        keeper.drop("one")
        self.assertEqual(["b", "a"], keeper.order())
        keeper.add("one", ["a", "b", "c"])
        self.assertEqual(["b", "a", "c"], keeper.order())

    def test_a_word_that_is_weighed_alone_does_not_come(self):
        keeper = Keeper("both", (1, 2), {"y": 3}, ["x"])
        keeper.weigh("z", 4)
        self.assertEqual(["x"], keeper.order())
        keeper.add("one", ["z"])
        self.assertEqual(["x", "z"], keeper.order())

    def test_a_word_weighed_between_two_addings(self):
        keeper = Keeper("both", (1, 2), {}, ["a", "b", "c"])
        keeper.add("one", ["a", "b"])
        self.assertEqual([], keeper.add("two", ["b", "c"]))
        keeper.weigh("b", 2)
        self.assertEqual([("one", "two", (1, 2))], keeper.pairs())
        self.assertEqual([("one", (1, 2)), ("two", (1, 1))], keeper.add("six", ["c", "b"]))
        keeper.weigh("b", 1)
        self.assertEqual([("six", "two", (1, 1))], keeper.pairs())
        self.assertEqual([("six", (1, 1)), ("two", (1, 1))], keeper.add("ten", ["c", "b"]))

    def test_what_was_held_stays_whatever_is_done_since(self):
        keeper = Keeper("both", (1, 2), {}, ["a", "b", "c"])
        self.assertEqual([], keeper.held())
        keeper.add("one", ["a", "b"])
        self.assertEqual([], keeper.held())
        keeper.add("two", ["b", "c"])
        self.assertEqual(["one"], keeper.held())
        keeper.weigh("a", 100)
        self.assertEqual(["one"], keeper.held())
        keeper.drop("one")
        self.assertEqual(["one"], keeper.held())
        keeper.drop("two")
        keeper.pairs()
        self.assertEqual(["one"], keeper.held())
        keeper.add("ten", [])
        self.assertEqual([], keeper.held())

    def test_held_by_weights_and_by_beginnings(self):
        keeper = Keeper("both", (2, 3), {"d": 9}, ["a", "b", "c", "d"])
        for name, words in (("one", ["a", "b"]), ("two", ["b", "c"]), ("ten", ["d", "b"]), ("six", ["b", "a", "c"])):
            keeper.add(name, words)
        # Here ten weighs too much, and the beginnings are: of one a, of two b, of six a and b, of nine b.
        self.assertEqual([], keeper.add("nine", ["b", "x"]))
        self.assertEqual(["six", "two"], keeper.held())

    def test_beginnings_go_by_the_order_with_the_own_words_already(self):
        # In the order of texts a would stand first, but it comes behind the words that are there.
        keeper = Keeper("both", (2, 3), {}, ["c"])
        keeper.add("one", ["a", "c"])
        keeper.add("two", ["c", "b"])
        self.assertEqual(["one"], keeper.held())
        keeper = Keeper("both", (2, 3), {}, [])
        keeper.add("one", ["a", "c"])
        keeper.add("two", ["c", "b"])
        self.assertEqual([], keeper.held())

    def test_an_order_may_have_words_that_no_set_has(self):
        keeper = Keeper("both", (1, 2), {}, ["x", "y"])
        self.assertEqual(["x", "y"], keeper.order())
        keeper.add("one", ["y", "a"])
        self.assertEqual(["x", "y", "a"], keeper.order())

    def test_empty_sets_are_kept_but_alike_to_none(self):
        for kind in KINDS:
            keeper = Keeper(kind, (1, 10 ** 20 - 1), {}, [])
            for name in ("a", "b"):
                self.assertEqual([], keeper.add(name, []))
                self.assertEqual([], keeper.held())
            self.assertEqual([], keeper.add("c", ["w"]))
            self.assertEqual(([], [], ["a", "b", "c"], ["w"]), whole_of(keeper))
            self.assertEqual([], keeper.drop("a"))

    def test_one_list_by_two_names(self):
        words = ["b", "a"]
        keeper = Keeper("both", (1, 1), {}, [])
        keeper.add("one", words)
        self.assertEqual([("one", (1, 1))], keeper.add("two", words))
        keeper.drop("one").append("z")
        self.assertEqual(["a", "b"], keeper.drop("two"))

    def test_any_deeds(self):
        seen = {"told": 0, "held": 0, "pairs": 0, "refused": 0}
        chance = Random(22)
        for turn in range(25):
            rule = (KINDS[turn % 5], chance.choice([(1, 2), (2, 3), (1, 3), (9, 10)]))
            order = chance.sample("abcdefgh", chance.randint(0, 6))
            keeper, kept = Keeper(*rule, {"a": 3}, order), Kept(*rule, {"a": 3}, order)
            for _ in range(50):
                name, words = chance.choice("klmnopqr"), chance.sample("abcdefgh", chance.randint(0, 8))
                deed = chance.choice(["add", "add", "add", "drop", "weigh"])
                if (deed == "add") == (name in kept.sets) and deed != "weigh":
                    with self.assertRaises(NoName):
                        keeper.add(name, words) if deed == "add" else keeper.drop(name)
                    seen["refused"] += 1
                else:
                    weighed = ((words + ["a"])[0], len(words) + 1)
                    asked = {"add": (name, words), "drop": (name,), "weigh": weighed}[deed]
                    told = getattr(keeper, deed)(*asked)
                    self.assertEqual(getattr(kept, deed)(*asked), told)
                    seen["told"] += len(told or [])
                self.assertEqual(kept.whole(), whole_of(keeper))
                seen["held"] += len(keeper.held())
                seen["pairs"] += len(keeper.pairs())
        self.assertGreater(min(seen.values()), 100)

    def test_many_deeds_with_great_sets(self):
        keeper = Keeper("mean", (3, 4), {f"w{at:03d}": 10 ** 6 - at for at in range(50)}, [])
        lot = [[f"w{at:03d}" for at in range(first, first + 60)] for first in range(0, 200)]
        for at, words in enumerate(lot):
            keeper.add(f"n{at:03d}", words)
        for at in range(40, 140):
            self.assertEqual(lot[at], keeper.drop(f"n{at:03d}"))
        kept = lot[:40] + lot[140:]
        weights = {f"w{at:03d}": 10 ** 6 - at for at in range(50)}
        names = [f"n{at:03d}" for at in list(range(40)) + list(range(140, 200))]
        expected = [(names[i], names[j], share) for i, j, share in plain_pairs("mean", (3, 4), kept, weights)]
        self.assertEqual(expected, keeper.pairs())
        self.assertEqual([f"w{at:03d}" for at in range(259)], keeper.order())

    def test_kinds_of_what_is_told(self):
        keeper = filled()
        told = keeper.add("four", ["a", "b"])
        self.assertEqual([list, tuple, str, tuple, int, int], [type(thing) for thing in (
            told, told[0], told[0][0], told[0][1], told[0][1][0], told[0][1][1],
        )])
        self.assertEqual([list, tuple], [type(keeper.pairs()), type(keeper.pairs()[0])])


class Refused(unittest.TestCase):

    def test_keepers_in_turn(self):
        for refusal, kind, least, weights, order in (
            (NoKind, "no", (2, 4), {"a": 0}, ["A"]),
            (NoKind, "no", (1, 2), {}, []),
            (NoShare, "both", (2, 4), {"a": 0}, ["A"]),
            (NoShare, "both", (0, 1), {}, []),
            (NoWeight, "both", (1, 2), {"a": 0}, ["A"]),
            (NoWeight, "both", (1, 2), {"": 1}, []),
            (NoOrder, "both", (1, 2), {}, ["A"]),
            (NoOrder, "both", (1, 2), {}, ["a", "b", "a"]),
            (NoOrder, "both", (1, 2), {}, ["a", ""]),
            (NoOrder, "both", (1, 2), {}, ["x" * 31]),
        ):
            with self.subTest(kind=kind, least=least, weights=weights, order=order):
                with self.assertRaises(refusal):
                    Keeper(kind, least, weights, order)

    def test_deeds_in_turn_and_nothing_is_changed(self):
        deeds = [(NoName, "add", name, words) for name in NO_WORDS + ("one", "none") for words in (["q"], ["A"])]
        deeds += [(NoSet, "add", "new", words) for words in (["q", "q"], ["q", "r", "q"])]
        deeds += [(NoSet, "add", "new", ["q", no]) for no in NO_WORDS]
        deeds += [(NoName, "drop", name) for name in NO_WORDS + ("new", "four")]
        deeds += [(NoWeight, "weigh", no, 2) for no in NO_WORDS]
        deeds += [(NoWeight, "weigh", word, number) for word in ("a", "q", "") for number in (0, -1, -10 ** 6)]
        keeper = filled()
        for refusal, deed, *asked in deeds:
            with self.subTest(deed=deed, asked=asked):
                with self.assertRaises(refusal):
                    getattr(keeper, deed)(*asked)
                self.assertEqual(whole_of(filled()), whole_of(keeper))
        other = filled()
        self.assertEqual(other.add("new", ["a", "q"]), keeper.add("new", ["a", "q"]))
        self.assertEqual(whole_of(other), whole_of(keeper))

    def test_a_taken_name_goes_ahead_of_a_list_that_is_no_set(self):
        keeper = filled()
        with self.assertRaises(NoName):
            keeper.add("one", ["a", "a"])
        with self.assertRaises(NoSet):
            keeper.add("other", ["a", "a"])
        keeper.drop("one")
        with self.assertRaises(NoSet):
            keeper.add("one", ["a", "a"])

    def test_each_is_a_refusal(self):
        for asked in (("add", "A", []), ("drop", "A"), ("weigh", "a", 0)):
            with self.assertRaises(LikeError):
                getattr(filled(), asked[0])(*asked[1:])


class HandedIn(unittest.TestCase):

    def test_nothing_is_changed(self):
        weights, order, words = {"b": 2, "a": 3}, ["c", "b"], ["z", "b", "a"]
        keeper = Keeper("both", (1, 2), weights, order)
        keeper.add("one", words)
        keeper.weigh("b", 9)
        keeper.add("two", words)
        keeper.drop("one")
        self.assertEqual(({"b": 2, "a": 3}, ["c", "b"], ["z", "b", "a"]), (weights, order, words))
        self.assertEqual(["b", "a"], list(weights))

    def test_what_is_done_later_changes_nothing(self):
        weights, order, words = {"a": 2}, ["c", "b"], ["a", "b"]
        keeper = Keeper("both", (1, 2), weights, order)
        weights["b"] = 100
        order.append("q")
        keeper.add("one", words)
        words.append("x")
        words[0] = "y"
        del weights["a"]
        order.clear()
        self.assertEqual([("one", (3, 4))], keeper.add("two", ["b", "a", "c"]))
        words.clear()
        self.assertEqual(([("one", "two", (3, 4))], ["one"], ["one", "two"], ["c", "b", "a"]), whole_of(keeper))
        self.assertEqual(["a", "b"], keeper.drop("one"))

    def test_what_is_told_is_the_askers_own(self):
        keeper = filled()
        for told in (keeper.add("four", ["a"]), keeper.pairs(), keeper.held(), keeper.names(), keeper.order()):
            told.append("more")
            told[0] = None
        expected = filled()
        expected.add("four", ["a"])
        self.assertEqual(whole_of(expected), whole_of(keeper))
        self.assertEqual(expected.add("five", ["z", "b"]), keeper.add("five", ["z", "b"]))

    def test_two_keepers_share_nothing(self):
        weights, order = {"a": 2}, ["c", "b"]
        one, other = Keeper("both", (1, 2), weights, order), Keeper("both", (1, 2), weights, order)
        one.add("n", ["a", "z"])
        one.weigh("a", 9)
        self.assertEqual(([], [], [], ["c", "b"]), whole_of(other))
        other.add("n", ["a", "b"])
        self.assertEqual([("n", (2, 3))], other.add("m", ["a"]))

    def test_nothing_hangs_on_the_order_of_words_or_weights(self):
        expected = whole_of(filled())
        for words in permutations(["a", "b", "c"]):
            for weights in ({"a": 2, "q": 3}, {"q": 3, "a": 2}):
                keeper = Keeper("both", (1, 2), weights, ["c", "b"])
                for name, some in (("one", ["b", "a"]), ("two", list(words)), ("none", []), ("three", ["z", "b"])):
                    keeper.add(name, some)
                self.assertEqual(expected, whole_of(keeper))
                self.assertEqual(["a", "b", "c"], keeper.drop("two"))


if __name__ == "__main__":
    unittest.main()

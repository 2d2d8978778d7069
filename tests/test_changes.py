"""Texts few changes apart: points 2, 4 and 26 to 28."""

import unittest
from functools import lru_cache
from itertools import combinations, product
from random import Random

from anything import same, variants
from muchalike.changes import apart, changed, is_table, near_pairs, pieces
from muchalike.errors import NoSize

SIGNS = [chr(number) for number in range(32, 127)]
WORDS = ["kitten", "sitting", "sit", "kit", "", " kit", "kitten ", "KITTEN", "knit", "nettik", "sitting"]
SHORT = ["".join(signs) for size in range(5) for signs in product("ab", repeat=size)]


@lru_cache(maxsize=None)
def far(one, other):
    """Tell how far two texts are apart, by what is done with their last signs."""
    if not one or not other:
        return len(one) + len(other)
    if one[-1] == other[-1]:
        return far(one[:-1], other[:-1])
    return 1 + min(far(one[:-1], other), far(one, other[:-1]), far(one[:-1], other[:-1]))


def all_changes(text, signs):
    for at in range(len(text) + 1):
        for sign in signs:
            yield ("in", at, sign), text[:at] + sign + text[at:]
    for at in range(len(text)):
        yield ("out", at), text[:at] + text[at + 1:]
        for sign in signs:
            yield ("for", at, sign), text[:at] + sign + text[at + 1:]


def far_by_walking(start):
    """Tell of all short texts in how few changes one comes there from the start."""
    told, edge = {start: 0}, [start]
    while edge:
        further = []
        for text in edge:
            for _, new in all_changes(text, "ab"):
                if len(new) <= 4 and new not in told:
                    told[new] = told[text] + 1
                    further.append(new)
        edge = further
    return told


def plain_changed(text, changes):
    """Tell what comes of changes by holding each against all that can be done there."""
    for change in changes:
        new = [new for good, new in all_changes(text, SIGNS) if same(good, change)]
        if not new:
            return None
        text = new[0]
    return text


def plain_is_table(one, other, table):
    if type(table) is not list or len(table) != len(one) + 1 or any(type(row) is not list for row in table):
        return False
    if any(len(row) != len(other) + 1 or any(type(number) is not int for number in row) for row in table):
        return False
    for i, row in enumerate(table):
        for j, number in enumerate(row):
            if i == j == 0 and number != 0:
                return False
            if i > 0 and number > table[i - 1][j] + 1 or j > 0 and number > row[j - 1] + 1:
                return False
            if i > 0 and j > 0 and number > table[i - 1][j - 1] + (one[i - 1] != other[j - 1]):
                return False
    return True


def some_texts(chance, many, most, signs="abc"):
    return ["".join(chance.choice(signs) for _ in range(chance.randint(0, most))) for _ in range(many)]


class Pieces(unittest.TestCase):

    def test_from_left_to_right(self):
        self.assertEqual(["ba", "an", "na", "an", "na"], pieces("banana", 2))
        self.assertEqual(["b", "a", "n", "a", "n", "a"], pieces("banana", 1))
        self.assertEqual(["a  ", "  a"], pieces("a  a", 3))

    def test_of_the_whole_and_of_a_shorter_text(self):
        self.assertEqual(["banana"], pieces("banana", 6))
        for size in (7, 8, 100, 10 ** 30):
            self.assertEqual([], pieces("banana", size))
        for size in (1, 2, 10 ** 30):
            self.assertEqual([], pieces("", size))

    def test_below_1_is_refused(self):
        for text in ("", "a", "banana"):
            for size in (0, -1, -10 ** 30):
                with self.assertRaises(NoSize):
                    pieces(text, size)

    def test_some(self):
        for text in some_texts(Random(26), 30, 30):
            for size in range(1, 33):
                told = pieces(text, size)
                self.assertEqual(max(0, len(text) - size + 1), len(told))
                for at, piece in enumerate(told):
                    self.assertEqual(size, len(piece))
                    self.assertTrue(text[at:].startswith(piece))


class Changed(unittest.TestCase):

    def test_each_change(self):
        self.assertEqual("axb", changed("ab", [("in", 1, "x")]))
        self.assertEqual("b", changed("ab", [("out", 0)]))
        self.assertEqual("xb", changed("ab", [("for", 0, "x")]))
        self.assertEqual("ab", changed("ab", [("for", 1, "b")]))
        self.assertEqual("ab", changed("ab", []))
        self.assertEqual("", changed("", []))

    def test_one_after_the_other(self):
        self.assertEqual("sitting", changed("kitten", [("for", 0, "s"), ("for", 4, "i"), ("in", 6, "g")]))
        self.assertEqual("ab", changed("", [("in", 0, "b"), ("in", 0, "a"), ("in", 2, "c"), ("out", 2)]))
        self.assertEqual("", changed("aa", [("out", 1), ("out", 0)]))
        self.assertIsNone(changed("aa", [("out", 0), ("out", 1)]))
        self.assertEqual("b" * 40, changed("", [("in", 0, "b")] * 40))

    def test_at_the_first_and_the_last_place_and_one_beyond(self):
        for text in ("", "a", "ab", "abc"):
            size = len(text)
            self.assertEqual("x" + text, changed(text, [("in", 0, "x")]))
            self.assertEqual(text + "x", changed(text, [("in", size, "x")]))
            for at in (-1, -size - 1, size + 1, size + 2, 10 ** 30, -10 ** 30):
                self.assertIsNone(changed(text, [("in", at, "x")]))
            for at in (-1, -size, -size - 1, size, size + 1, 10 ** 30):
                if at not in range(size):
                    self.assertIsNone(changed(text, [("out", at)]))
                    self.assertIsNone(changed(text, [("for", at, "x")]))
            if size:
                self.assertEqual(text[1:], changed(text, [("out", 0)]))
                self.assertEqual(text[:-1], changed(text, [("out", size - 1)]))
                self.assertEqual("x" + text[1:], changed(text, [("for", 0, "x")]))
                self.assertEqual(text[:-1] + "x", changed(text, [("for", size - 1, "x")]))

    def test_all_changes_of_short_texts(self):
        for text in ("", "a", "ba", "aba"):
            for change, expected in all_changes(text, SIGNS):
                self.assertEqual(expected, changed(text, [change]))

    def test_what_is_no_change(self):
        wrong = [
            (), ("in",), ("out",), ("for",), ("in", 0), ("for", 0), ("out", 0, "x"), ("out", 0, None),
            ("in", 0, "x", 1), ("for", 0, "x", "y"), ("out", 0, 0), ("", 0, "x"), ("IN", 0, "x"), (None, 0, "x"),
            (0, 0, "x"),
            (True, 0), (False, 0, "x"), ("into", 0, "x"), ("in ", 0, "x"), ("x", 0), ("x", 0, "in"), (0, "in", "x"),
        ]
        for word in ("in", "for"):
            wrong += [(word, at, "x") for at in (True, False, None, "0", "", -1)]
            wrong += [(word, 0, sign) for sign in ("", "xy", "\n", "\t", "\x7f", "\x1f", "\xe9", 0, 1, True, None)]
        wrong += [("out", at) for at in (True, False, None, "0", "x", -1)]
        for change in wrong:
            for changes in ([change], [("for", 0, "x"), change], [change, ("for", 0, "x")]):
                self.assertIsNone(changed("ab", changes), changes)

    def test_each_sign_from_the_blank_to_the_tilde(self):
        self.assertEqual(95, len(SIGNS))
        for sign in SIGNS:
            self.assertEqual(sign + "ab", changed("ab", [("in", 0, sign)]))
            self.assertEqual("a" + sign, changed("ab", [("for", 1, sign)]))

    def test_changes_that_are_changed_at_one_place(self):
        seen = 0
        for change in (("in", 1, "x"), ("in", 2, "a"), ("out", 0), ("out", 1), ("for", 0, "b"), ("for", 1, "b")):
            for other in variants(change):
                if type(other) is tuple and all(part is None or type(part) in (int, str, bool) for part in other):
                    self.assertEqual(plain_changed("ab", [other]), changed("ab", [other]), other)
                    seen += 1
        self.assertGreater(seen, 200)

    def test_rows_of_changes_in_a_fixed_turn(self):
        chance = Random(27)
        for _ in range(300):
            text = some_texts(chance, 1, 8)[0]
            changes, expected = [], text
            for _ in range(chance.randint(0, 12)):
                change, expected = chance.choice(list(all_changes(expected, "ab ~")))
                changes.append(change)
            self.assertEqual(expected, changed(text, changes))
            changes.insert(chance.randint(0, len(changes)), ("out", 21))
            self.assertIsNone(changed(text, changes))


class Apart(unittest.TestCase):

    def holds(self, one, other):
        many, changes, table = told = apart(one, other)
        self.assertIs(tuple, type(told))
        self.assertIs(int, type(many))
        self.assertEqual(far(one, other), many)
        self.assertIs(list, type(changes))
        self.assertEqual(many, len(changes))
        self.assertTrue(all(type(change) is tuple for change in changes))
        self.assertEqual(other, changed(one, changes))
        self.assertTrue(plain_is_table(one, other, table))
        self.assertIs(True, is_table(one, other, table))
        self.assertEqual(many, table[-1][-1])
        self.assertEqual(len(table), len({id(row) for row in table}))

    def test_some_words(self):
        self.assertEqual(3, apart("kitten", "sitting")[0])
        for one, other in product(WORDS, repeat=2):
            self.holds(one, other)

    def test_empty_texts(self):
        self.assertEqual((0, [], [[0]]), apart("", ""))
        self.assertEqual((1, [("in", 0, "a")], [[0, 1]]), apart("", "a"))
        self.assertEqual((1, [("out", 0)], [[0], [1]]), apart("a", ""))

    def test_all_short_texts_by_walking(self):
        for one in SHORT:
            for other, many in far_by_walking(one).items():
                self.assertEqual(many, apart(one, other)[0])
                self.holds(one, other)

    def test_some_texts_of_up_to_30_signs(self):
        chance = Random(28)
        for one, other in combinations(some_texts(chance, 16, 30) + ["a" * 30, "b" * 30, "ab" * 15], 2):
            self.holds(one, other)

    def test_the_table_is_filled_as_great_as_it_may_be(self):
        self.assertEqual([[0, 1, 2], [1, 0, 1], [2, 1, 1]], apart("ab", "ac")[2])
        for one, other in product(WORDS, repeat=2):
            table = apart(one, other)[2]
            self.assertTrue(all(
                table[i][j] == far(one[:i], other[:j]) for i in range(len(one) + 1) for j in range(len(other) + 1)
            ))

    def test_what_is_told_is_new_and_the_same_again(self):
        expected = apart("kitten", "sitting")
        told = apart("kitten", "sitting")
        told[1].clear()
        told[2][0].clear()
        told[2].pop()
        self.assertEqual(expected, apart("kitten", "sitting"))


class IsTable(unittest.TestCase):

    def test_some(self):
        for table in (
            [[0, 1], [1, 0]], [[0, 0], [0, 0]], [[0, -1], [1, 0]], [[0, 1], [-9, -8]], [[0, -7], [-3, -10 ** 39]],
        ):
            self.assertIs(True, is_table("a", "a", table), table)
        for table in ([[0, 1], [1, 1]], [[0, 2], [1, 0]], [[0, 1], [2, 0]], [[1, 1], [1, 0]], [[-1, 0], [0, -1]]):
            self.assertIs(False, is_table("a", "a", table), table)
        self.assertIs(True, is_table("a", "b", [[0, 1], [1, 1]]))
        self.assertIs(False, is_table("a", "b", [[0, 1], [1, 2]]))

    def test_of_empty_texts(self):
        self.assertIs(True, is_table("", "", [[0]]))
        self.assertIs(True, is_table("", "ab", [[0, 1, 2]]))
        self.assertIs(True, is_table("ab", "", [[0], [-5], [-4]]))
        for table in (
            [], [[]], [[1]], [[-1]], [[0, 1]], [[0], [1]], [0], 0, None, "", "0", ([0],), [(0,)], [[False]],
        ):
            self.assertIs(False, is_table("", "", table), table)

    def test_truths_are_no_numbers(self):
        for table in ([[False, 1], [1, 0]], [[0, True], [1, 0]], [[0, 1], [True, 0]], [[0, 1], [1, False]]):
            self.assertIs(False, is_table("a", "a", table), table)

    def test_tuples_are_no_lists(self):
        for table in (([0, 1], [1, 0]), [(0, 1), [1, 0]], [[0, 1], (1, 0)], ((0, 1), (1, 0))):
            self.assertIs(False, is_table("a", "a", table), table)

    def test_of_other_sizes(self):
        table = apart("ab", "abc")[2]
        self.assertIs(True, is_table("ab", "abc", table))
        for one, other in (("a", "abc"), ("abc", "abc"), ("ab", "ab"), ("ab", "abcd"), ("abc", "ab"), ("", "")):
            self.assertIs(False, is_table(one, other, table))
        for wrong in (table[:-1], table + [[3, 2, 1, 1]], table[:2] + [table[2][:-1]], [table[0] + [4]] + table[1:]):
            self.assertIs(False, is_table("ab", "abc", wrong), wrong)

    def test_anything_at_all(self):
        for thing in (
            None, True, 0, 1, "", "ab", (), [], [[]], [None], [[None]], [["0"]], (((((0,),),),),), [[[[[0]]]]],
        ):
            for one, other in (("", ""), ("a", ""), ("", "a"), ("a", "a")):
                self.assertIs(False, is_table(one, other, thing), thing)

    def test_all_small_ones(self):
        for one, other in (("a", "a"), ("a", "b")):
            for numbers in product(range(-2, 3), repeat=4):
                table = [list(numbers[:2]), list(numbers[2:])]
                self.assertIs(plain_is_table(one, other, table), is_table(one, other, table))
        for one, other in (("aa", "a"), ("ab", "a"), ("ab", "b"), ("b", "ab")):
            for numbers in product(range(-1, 3), repeat=5):
                rows = (0,) + numbers
                width = len(other) + 1
                table = [list(rows[at:at + width]) for at in range(0, 6, width)]
                self.assertIs(plain_is_table(one, other, table), is_table(one, other, table))

    def test_tables_that_are_changed_at_one_place(self):
        seen = {True: 0, False: 0}
        for one, other in (("ab", "b"), ("", "ab"), ("aba", "bab"), ("kit", "sit")):
            for table in variants(apart(one, other)[2]):
                expected = plain_is_table(one, other, table)
                self.assertIs(expected, is_table(one, other, table), table)
                seen[expected] += 1
        self.assertGreater(min(seen.values()), 20)

    def test_no_table_tells_more_than_how_far_they_are_apart(self):
        chance = Random(29)
        for _ in range(400):
            one, other = some_texts(chance, 2, 4)
            table = apart(one, other)[2]
            for row in table:
                for at, number in enumerate(row):
                    if chance.random() < 0.2:
                        row[at] = number + chance.randint(-2, 2)
            expected = plain_is_table(one, other, table)
            self.assertIs(expected, is_table(one, other, table))
            if expected:
                self.assertLessEqual(table[-1][-1], far(one, other))

    def test_nothing_is_changed(self):
        table = [[0, 1], (1, [None, "a"])]
        is_table("a", "a", table)
        self.assertEqual([[0, 1], (1, [None, "a"])], table)


class NearPairs(unittest.TestCase):

    def expected(self, texts, most, size):
        pairs, held = [], []
        for i, j in combinations(range(len(texts)), 2):
            one, other = sorted((texts[i], texts[j]), key=len)
            if far(one, other) <= most:
                pairs.append((i, j, far(one, other)))
            left, both = [other[at:at + size] for at in range(len(other) - size + 1)], 0
            for at in range(len(one) - size + 1):
                if one[at:at + size] in left:
                    left.remove(one[at:at + size])
                    both += 1
            if len(other) - len(one) <= most and both >= len(other) + 1 - size - size * most:
                held.append((i, j))
        return (pairs, held)

    def test_some(self):
        texts = ["abc", "abd", "xyz", "abcd", "abc"]
        pairs = [(0, 1, 1), (0, 3, 1), (0, 4, 0), (1, 3, 1), (1, 4, 1), (3, 4, 1)]
        self.assertEqual((pairs, pairs_of(pairs)), near_pairs(texts, 1, 1))
        self.assertEqual(([(0, 4, 0)], [(0, 4)]), near_pairs(texts, 0, 3))

    def test_a_most_of_0_tells_like_texts(self):
        texts = ["ab", "ba", "ab", "", "abab", "", "baba", "ab"]
        like = [(0, 2, 0), (0, 7, 0), (2, 7, 0), (3, 5, 0)]
        self.assertEqual((like, pairs_of(like)), near_pairs(texts, 0, 2))
        anagrams = sorted(pairs_of(like) + [(0, 1), (1, 2), (1, 7), (4, 6)])
        self.assertEqual((like, anagrams), near_pairs(texts, 0, 1))

    def test_of_few_texts(self):
        for texts in ([], [""], ["abc"]):
            self.assertEqual(([], []), near_pairs(texts, 3, 2))
        self.assertEqual(([(0, 1, 0)], [(0, 1)]), near_pairs(["", ""], 0, 1))

    def test_sizes_beyond_the_texts_hold_all_of_near_lengths(self):
        texts = ["abc", "xyz", "x", "", "abcd"]
        for size in (5, 6, 30, 10 ** 30):
            self.assertEqual(([(0, 4, 1), (2, 3, 1)], [(0, 1), (0, 4), (1, 4), (2, 3)]), near_pairs(texts, 1, size))

    def test_some_texts(self):
        chance = Random(30)
        seen = 0
        for _ in range(25):
            texts = some_texts(chance, 6, 7, "ab") + WORDS[:4]
            texts += [changed(texts[0], [("in", 0, "x")]), texts[1][:-1], texts[2]]
            for most, size in product((0, 1, 2, 3, 10), (1, 2, 3, 9)):
                pairs, held = told = near_pairs(texts, most, size)
                self.assertEqual(self.expected(texts, most, size), told)
                self.assertLessEqual(set(pairs_of(pairs)), set(held))
                seen += len(held) > len(pairs) > 0
        self.assertGreater(seen, 100)

    def test_thirty_texts_of_thirty_signs(self):
        base = "the quick brown fox jumps over"
        texts = [base[:at] + "~" * (at % 4) + base[at + at % 4:] for at in range(26)] + some_texts(Random(31), 4, 30)
        self.assertEqual(self.expected(texts, 3, 4), near_pairs(texts, 3, 4))

    def test_refused(self):
        for texts in ([], ["a"], ["a", "ab"]):
            for most, size in ((-1, 1), (0, 0), (-1, 0), (3, -1), (-10 ** 30, 2), (2, -10 ** 30)):
                with self.assertRaises(NoSize):
                    near_pairs(texts, most, size)

    def test_nothing_is_changed_and_what_is_told_is_new(self):
        texts = list(WORDS)
        told, expected = near_pairs(texts, 3, 2), near_pairs(texts, 3, 2)
        self.assertEqual(WORDS, texts)
        told[0].clear()
        told[1].clear()
        self.assertEqual(expected, near_pairs(texts, 3, 2))
        texts[0] = ""
        texts.pop()
        self.assertEqual(near_pairs(WORDS, 3, 2), expected)


def pairs_of(pairs):
    return [pair[:2] for pair in pairs]


if __name__ == "__main__":
    unittest.main()

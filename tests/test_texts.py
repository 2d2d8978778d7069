"""Texts of numbers, shares, sets, lots and papers: points 2, 8, 19, 29 and 30."""

import unittest
from copy import deepcopy
from random import Random

from anything import same
from muchalike.errors import NoText
from muchalike.papers import shown, shows_all
from muchalike.texts import lot_text, paper_text, read_lot, read_paper, set_text, share_text
from plainly import KINDS, some_lots

GREATEST = 10 ** 40 - 1
NO_WORDS = ("", "A", "-", "a-b", "~", "a" * 31, "a,b", "\t", "a\t", "\u00e9", "\u0663")
# Each is wrong where a number, from 0 on, stands.
NO_NUMBERS = (
    "", "-", "-1", "+1", "00", "01", "007", "1.0", "1e3", "1_0", "x", "0x1", "1/1", "1,2", "1\t", "\u0663", "\u00b2",
    "1" + "0" * 40, "9" * 41, "0" * 41, "True", "None",
)
PAIRS = [(0, 1, (1, 2)), (3, 2, (1, 1))]
ALL = ("all", [(0, 1, 2), (4, 4, 0)])
BEGINNINGS = ("beginnings", ["b", "a", "b"], [1, 0, 3], [(0, 1, 2)])
PARTS = ("parts", [["b", "a"], [], ["c", "b", "c"]], [(0, 1, 2)])
PAPERS = (
    ALL, BEGINNINGS, PARTS, ("all", []), ("beginnings", [], [], []), ("parts", [], []), ("parts", [[]], []),
    ("parts", [[], ["a"]], [(0, 0, 0)]), ("beginnings", ["."], [0], [(2, 1, GREATEST)] * 2),
    ("beginnings", [], [GREATEST, 0], []), ("beginnings", ["all", "held", "order"], [], [(1, 0, 1)]),
    ("parts", [["part"], ["held"], ["parts", "pair"]], []),
)
WRITTEN = "\n".join((
    "pair 0 1 1/2", "pair 3 2 1/1", "beginnings", "order b a b", "ends 1 0 3", "held 0 1 2",
))


class Texts(unittest.TestCase):

    def refuses(self, reads, *texts):
        for text in texts:
            with self.subTest(text=text):
                with self.assertRaises(NoText):
                    reads(text)


class Written(unittest.TestCase):

    def test_shares(self):
        for share, text in (((1, 2), "1/2"), ((0, 1), "0/1"), ((1, 1), "1/1"), ((7, 10), "7/10")):
            self.assertEqual(text, share_text(share))
        self.assertEqual("9" * 40 + "/1" + "0" * 39, share_text((GREATEST, 10 ** 39)))

    def test_sets(self):
        self.assertEqual("-", set_text([]))
        self.assertEqual("a", set_text(["a"]))
        self.assertEqual(". 0 a.10 a.2 ab b", set_text(["b", "a.2", "ab", "0", ".", "a.10"]))

    def test_lots(self):
        self.assertEqual("lot", lot_text([]))
        self.assertEqual("lot\n-", lot_text([[]]))
        self.assertEqual("lot\n-\n-\n-", lot_text([[], [], []]))
        self.assertEqual("lot\na b\n-\nc\na b", lot_text([["b", "a"], [], ["c"], ["a", "b"]]))

    def test_papers(self):
        self.assertEqual("pair 0 1 1/2\npair 3 2 1/1\nall\nheld 0 1 2\nheld 4 4 0", paper_text(PAIRS, ALL))
        self.assertEqual(WRITTEN, paper_text(PAIRS, BEGINNINGS))
        self.assertEqual("parts\npart b a\npart\npart c b c\nheld 0 1 2", paper_text([], PARTS))

    def test_what_stands_alone(self):
        self.assertEqual("all", paper_text([], ("all", [])))
        self.assertEqual("parts", paper_text([], ("parts", [], [])))
        self.assertEqual("beginnings\norder\nends", paper_text([], ("beginnings", [], [], [])))
        self.assertEqual("parts\npart\npart", paper_text([], ("parts", [[], []], [])))

    def test_great_numbers(self):
        expected = f"pair {'9' * 40} 0 {'9' * 40}/1\nall\nheld 0 {'9' * 40} {'9' * 40}"
        self.assertEqual(expected, paper_text([(GREATEST, 0, (GREATEST, 1))], ("all", [(0, GREATEST, GREATEST)])))


class Lots(Texts):

    def test_read_to_the_same_lot(self):
        for lot in (
            [], [[]], [[], []], [["a"]], [["a", "b"], [], ["lot"], ["a", "b"]], [["x" * 30, "x."], ["..", "0"]],
        ):
            lot = [sorted(words) for words in lot]
            self.assertEqual(lot, read_lot(lot_text(lot)))

    def test_some_lots(self):
        for lot, _, _, _ in some_lots(40):
            self.assertEqual([sorted(words) for words in lot], read_lot(lot_text(lot)))

    def test_a_great_lot(self):
        lot = [sorted(f"{'w' * 28}{number}" for number in range(first, first + 60)) for first in range(39)] + [[]]
        self.assertEqual(lot, read_lot(lot_text(lot)))

    def test_words_may_stand_in_any_order(self):
        self.assertEqual([["a", "b", "c"], [], ["a.10", "a.2"]], read_lot("lot\nc a b\n-\na.2 a.10"))

    def test_line_ends_stand_between_two_lines_alone(self):
        self.refuses(
            read_lot, "lot\n", "\nlot", "lot\n\n", "lot\na\n", "lot\n\na", "lot\na\n\nb", "\n", "", "lot\r\na",
            "lot\na\r",
        )

    def test_blanks_stand_between_two_words_alone(self):
        self.refuses(
            read_lot, " ", "lot ", " lot", "lot\na  b", "lot\n a", "lot\na ", "lot\n- ", "lot\n -", "lot\n \na",
            "lot\na\tb", "lot\ta",
        )

    def test_the_first_line_is_lot(self):
        self.refuses(
            read_lot, "a", "a b\n-", "Lot", "lots\na", "lot a", "lot -", "lot lot", "-", "all", "-\nlot", "a\nlot",
        )

    def test_lines_of_no_set(self):
        self.refuses(read_lot, "lot\n- -", "lot\n- a", "lot\na -", "lot\na a", "lot\nb\na c a", "lot\nc b c", "lot\n--")
        for text in NO_WORDS:
            self.refuses(read_lot, "lot\na " + text, "lot\nb\n" + text + " a")
            if text != "-":
                self.refuses(read_lot, "lot\n" + text)


class Papers(Texts):

    def test_read_to_the_same(self):
        for paper in PAPERS:
            for pairs in (PAIRS, [], PAIRS[:1], PAIRS * 2, [(5, 5, (0, 1)), (GREATEST, 7, (9, 4))]):
                self.assertTrue(same((pairs, paper), read_paper(paper_text(pairs, paper))))

    def test_what_is_shown_is_let_by_when_it_is_read(self):
        for lot, weights, _, _ in some_lots(12):
            for kind in KINDS:
                for way in ("all", "beginnings", "parts"):
                    told = shown(way, kind, (1, 3), lot, weights, 3)
                    read = read_paper(paper_text(*told))
                    self.assertTrue(same(told, read))
                    self.assertIs(True, shows_all(kind, (1, 3), lot, weights, *read))

    def test_of_two_thousand_lines(self):
        chance = Random(30)
        held = [(chance.randint(0, 50), chance.randint(0, 50), chance.randint(0, GREATEST)) for _ in range(2000)]
        pairs = [(i, j, (c, 1)) for i, j, c in held]
        self.assertEqual((pairs, ("all", held)), read_paper(paper_text(pairs, ("all", held))))

    def test_numbers_of_forty_figures_and_of_forty_one(self):
        for pattern in (
            "all\nheld {} 0 0", "all\nheld 0 {} 0", "all\nheld 0 0 {}", "beginnings\norder\nends {}",
            "beginnings\norder\nends 0 {} 1", "pair {} 0 1/2\nall", "pair 0 {} 1/2\nall", "pair 0 0 {}/1\nall",
            "pair 0 0 1/{}\nparts",
        ):
            for number in ("1", "10", "9" * 40, "1" + "0" * 39):
                text = pattern.format(number)
                self.assertEqual(text, paper_text(*read_paper(text)))
            self.refuses(read_paper, *[pattern.format(text) for text in NO_NUMBERS])

    def test_zero_is_one_figure(self):
        text = "pair 0 0 0/1\nbeginnings\norder\nends 0\nheld 0 0 0"
        self.assertEqual(([(0, 0, (0, 1))], ("beginnings", [], [0], [(0, 0, 0)])), read_paper(text))

    def test_shares(self):
        pattern = "pair 0 1 {}\nall"
        for text in ("0/1", "1/1", "3/2", "2/1", "5/7"):
            self.assertEqual(text, share_text(read_paper(pattern.format(text))[0][0][2]))
        self.refuses(read_paper, *[pattern.format(text) for text in (
            "1/0", "0/0", "2/4", "3/3", "0/2", "6/4", "1", "/", "1/", "/1", "1/2/3", "1//2", "1:2", "-1/2", "1/-2",
            "1/ 2", "1 /2", "1 2", "01/2", "1/02", "0.5",
        )])

    def test_words(self):
        for pattern in (
            "beginnings\norder {}\nends", "beginnings\norder a {}\nends 0", "parts\npart {}", "parts\npart\npart a {}",
        ):
            for word in ("a", "x" * 30, "all", "..", "0"):
                text = pattern.format(word)
                self.assertEqual(text, paper_text(*read_paper(text)))
            self.refuses(read_paper, *[pattern.format(text) for text in NO_WORDS])

    def test_lines_with_other_or_too_many_or_too_few_words(self):
        lines = WRITTEN.split("\n")
        for at, line in enumerate(lines):
            for other in (line + " 1/2", line + " -", "x" + line, line.upper(), " ".join(["a"] + line.split(" ")[1:])):
                self.refuses(read_paper, "\n".join(lines[:at] + [other] + lines[at + 1:]))
        self.refuses(
            read_paper, "all all", "all 0", "parts 2", "parts a", "beginnings a\norder\nends", "pair\nall", "all\nheld",
            "pair 0 1\nall", "pair 0 1 1/2 0\nall", "all\nheld 0 1", "all\nheld 0 1 2 3", "all\nhold 0 1 2",
            "parts\nparts a", "lot", "lot\na", "none",
        )

    def test_lines_out_of_their_order(self):
        self.refuses(
            read_paper, "all\npair 0 1 1/2", "pair 0 1 1/2", "held 0 1 1", "held 0 1 1\nall", "all\nall", "all\nparts",
            "parts\nall", "parts\nheld 0 1 1\npart a", "part a", "part a\nparts", "beginnings", "beginnings\norder a",
            "beginnings\nends 1\norder a", "beginnings\nends 1", "order a\nends 1", "beginnings\norder a\nheld 0 1 1",
            "beginnings\norder\norder\nends", "beginnings\norder\nends\nends", "order\nbeginnings\nends",
            "beginnings\norder\nends\npart a", "beginnings\norder\nends\nall", "parts\norder a\nends 1",
            "all\norder a", "all\nheld 0 1 1\npair 0 1 1/2", "all\nheld 0 1 1\nall", "all\nheld 0 1 1\nparts",
            "beginnings\nheld 0 1 1\norder\nends", "beginnings\norder\nheld 0 1 1\nends", "pair 0 1 1/2\nheld 0 1 1",
        )
        lines = WRITTEN.split("\n")
        for at in range(len(lines)):
            for to in range(len(lines)):
                moved = lines[:at] + lines[at + 1:]
                moved.insert(to, lines[at])
                if {at, to} <= {0, 1}:
                    self.assertEqual(sorted(PAIRS), sorted(read_paper("\n".join(moved))[0]))
                elif at != to:
                    self.refuses(read_paper, "\n".join(moved))

    def test_blanks_and_line_ends(self):
        self.refuses(
            read_paper, "", " ", "\n", "all\n", "\nall", " all", "all ", "parts\n", "beginnings\norder\nends\n",
        )
        for at, sign in enumerate(WRITTEN):
            if sign in " \n":
                self.refuses(
                    read_paper, WRITTEN[:at] + sign + WRITTEN[at:], WRITTEN[:at] + " " + WRITTEN[at:],
                    WRITTEN[:at] + "\n" + WRITTEN[at:], WRITTEN[:at] + "\t" + WRITTEN[at + 1:],
                )
        for line in ("order ", "order  a", " order", "ends ", "ends  1"):
            first = line.strip().split(" ")[0]
            text = "beginnings\norder\nends".replace(first, line)
            self.refuses(read_paper, text)
        self.refuses(read_paper, "parts\npart ", "parts\npart  a", "parts\n part", "parts\npart a ", "parts \npart")


class HandedIn(unittest.TestCase):

    def test_nothing_is_changed(self):
        lot = [["b", "a"], [], ["c"]]
        set_text(lot[0])
        lot_text(lot)
        self.assertEqual([["b", "a"], [], ["c"]], lot)
        for paper in PAPERS:
            pairs, kept = deepcopy((PAIRS, paper))
            paper_text(pairs, kept)
            self.assertEqual((PAIRS, paper), (pairs, kept))

    def test_what_is_read_is_new_each_time(self):
        text = "lot\nb a\n-\n-\nb a"
        told, expected = read_lot(text), read_lot(text)
        self.assertEqual(4, len({id(words) for words in told}))
        for words in told:
            words.append("z")
        told.clear()
        self.assertEqual(expected, read_lot(text))
        for paper in PAPERS:
            text = paper_text(PAIRS, paper)
            pairs, read = read_paper(text)
            pairs.clear()
            for part in read[1:]:
                for inner in part:
                    if isinstance(inner, list):
                        inner.clear()
                part.clear()
            self.assertEqual((PAIRS, paper), read_paper(text))

    def test_nothing_hangs_on_the_order_of_a_sets_words(self):
        self.assertEqual(lot_text([["a", "b", "c"]]), lot_text([["c", "a", "b"]]))
        self.assertEqual(set_text(["a", "b", "c"]), set_text(["b", "c", "a"]))


if __name__ == "__main__":
    unittest.main()

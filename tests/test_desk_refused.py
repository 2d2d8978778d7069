"""What a desk refuses, and in which order: point 34."""

import unittest

from deskmodel import PlainDesk
from muchalike.desk import Desk
from muchalike.errors import (
    LikeError, NoKind, NoName, NoNumber, NoParts, NoRow, NoSet, NoShare, NoText, NoWay, NoWeight,
)

# Good rows of so many words, no fewer and no more.
GOOD = (
    "kind both", "least 1/2", "out 2", "weigh a 2", "plain", "sets", "count", "weights", "set 1", "share 0 1",
    "pairs all", "pairs parts 2", "held places", "held parts 2", "why 0 1", "paper beginnings", "paper parts 2",
    "next", "may", "groups", "chain 0 1", "within", "tops", "drop n", "heavy a 2", "keeper", "kept", "names",
    "last", "order",
)
GOOD_WITH_SETS = ("put a", "put a b", "put -", "add m a", "add m a b", "add m -")
NO_NUMBERS = (
    "x", "-1", "+1", "00", "01", "1.0", "1/1", "1_0", "0x1", "a1", "1a", "-", ".", "1,", "9" * 41, "1" + "0" * 40,
    "0" * 41,
)
FORTY = "9" * 40
NO_WORDS = ("A", "a-b", "~", "x" * 31, "a,", "_")
ASKING = (
    "sets", "count", "weights", "set 0", "share 0 1", "pairs all", "held all", "why 0 1", "paper all", "groups",
    "chain 0 1", "within", "tops", "kept", "names", "last", "order", "may",
)


def filled(desk):
    """Tell a desk at which something of everything has been done."""
    for row in (
        "put a b", "put b c", "put c", "weigh b 3", "keeper", "add n a b", "add k c", "heavy c 2", "kind mean",
        "least 1/3", "next",
    ):
        desk.say(row)
    return desk


class Refusals(unittest.TestCase):

    def refuses(self, refusal, *rows, empty=False):
        """Hold that a desk refuses each of the rows, and that this changes nothing."""
        for row in rows:
            with self.subTest(row=row):
                desk, other = Desk(), Desk()
                if not empty:
                    filled(desk)
                    filled(other)
                with self.assertRaises(LikeError) as refused:
                    desk.say(row)
                self.assertIs(refusal, type(refused.exception))
                if not empty:
                    self.assertEqual([other.say(asked) for asked in ASKING], [desk.say(asked) for asked in ASKING])
                self.assertEqual(other.say("next"), desk.say("next"))
                self.assertEqual(other.say("may"), desk.say("may"))


class NoRows(Refusals):

    def test_good_rows_are_answered(self):
        for row in list(GOOD + GOOD_WITH_SETS) + ["lot", "lot\na", "looks all"]:
            self.assertEqual(filled(PlainDesk()).say(row), filled(Desk()).say(row), row)

    def test_first_words_that_are_none(self):
        self.refuses(
            NoRow, "", "no", "Kind both", "KIND both", "kinds both", "kin both", "lots", "Lot", "lotx\na", "LOT\na",
            "look all", "lookss all", "Looks all", "setss", "set.0", "text", "fraction", "number", "way", "say",
            "0", "1 2", "-", "none", "ok", "lot.\na", "say sets", "a\nsets", "fraction 1/2", "way all", "number 0",
            "text a",
        )

    def test_other_counts_of_words(self):
        for row in GOOD:
            words = row.split(" ")
            self.refuses(NoRow, *[" ".join(words[:size]) for size in range(1, len(words))])
            self.refuses(NoRow, row + " a", row + " 1", row + " 0 1", row + " -")
        self.refuses(NoRow, "put", "add", "add m", "add n", "add -", "looks")

    def test_parts_have_one_word_more(self):
        for first in ("pairs", "held", "paper"):
            self.refuses(
                NoRow, first, f"{first} parts", f"{first} all 2", f"{first} beginnings 1", f"{first} no 1",
                f"{first} parts 2 2", f"{first} 2 parts", f"{first} partss 2", f"{first} part 2",
            )

    def test_blanks(self):
        for row in GOOD + GOOD_WITH_SETS:
            self.refuses(NoRow, " " + row, row + " ", "  " + row, row + "  ")
            if " " in row:
                self.refuses(NoRow, row.replace(" ", "  ", 1), "  ".join(row.rsplit(" ", 1)))
        self.refuses(NoRow, " ", "  ", " lot", " lot\na", " looks all", "put ", "add m ", "pairs parts ")

    def test_line_ends(self):
        for row in GOOD + GOOD_WITH_SETS:
            self.refuses(NoRow, row + "\n", "\n" + row, row + "\na", row + "\n\n", row + "\nsets", row + " \n")
            if " " in row:
                self.refuses(NoRow, row.replace(" ", "\n", 1), row.replace(" ", " \n", 1), row.replace(" ", "\n ", 1))
        self.refuses(NoRow, "\n", "\nlot", "\nlooks all", "put a\nb", "put a\n", "add m a\nb")

    def test_looks_without_a_text(self):
        self.refuses(NoRow, "looks", "looks ", "looks\n", "looks\nall", "looks\n all", "looks\n ")

    def test_it_goes_ahead_of_all_else(self):
        self.refuses(
            NoRow, "share x", "share 0 x 1", "share x x\n", "least 1/2/3 4", "out 9 9", "set 99 ", "why 0  0",
            "chain 9", "kind no no", "weigh A x 0", "heavy A", "add A", "drop", "pairs no x", "pairs parts x x",
            "put A\n", "put  A", " put a a", "least x ", "paper parts", "out", "weigh a", "no x 9",
        )


class NoTexts(Refusals):

    def test_numbers_otherwise_written(self):
        for text in NO_NUMBERS:
            self.refuses(
                NoText, f"out {text}", f"set {text}", f"share {text} 0", f"share 0 {text}", f"why {text} 0",
                f"why 0 {text}", f"chain {text} 0", f"chain 0 {text}", f"weigh a {text}", f"heavy a {text}",
                f"pairs parts {text}", f"held parts {text}", f"paper parts {text}",
            )

    def test_numbers_of_forty_figures(self):
        desk = filled(Desk())
        self.assertEqual("ok", desk.say(f"weigh a {FORTY}"))
        self.assertEqual("ok", desk.say(f"heavy a {FORTY}"))
        self.assertEqual(f"a {FORTY}; b 3", desk.say("weights"))
        self.refuses(NoNumber, f"out {FORTY}", f"set {FORTY}", f"share 0 {FORTY}", f"why {FORTY} 0", f"chain 0 {FORTY}")

    def test_shares_otherwise_written(self):
        for text in NO_NUMBERS:
            self.refuses(NoText, f"least {text}/2" if "/" not in text else f"least {text}/", f"least 1/{text}")
        self.refuses(
            NoText, "least 1", "least /", "least 1/", "least /2", "least 1/2/3", "least 1//2", "least half",
            "least 0.5", "least 1:2", "least -1/2", "least 1/-2",
        )

    def test_lots_that_are_none(self):
        self.refuses(
            NoText, "lot ", "lot\n", "lot a", "lot -", "lot\n\n", "lot\na\n", "lot\n\na", "lot\n a", "lot\na ",
            "lot\na  b", "lot\nA", "lot\na a", "lot\n- -", "lot\n- a", "lot\nlot\nb b", "lot lot", "lot  ",
            "lot \na", "lot\n" + "x" * 31, "lot\n ", "lot\n-\n ", "lot\nb\na c a",
        )

    def test_papers_that_are_none(self):
        self.refuses(
            NoText, "looks  ", "looks \n", "looks a", "looks  all", "looks all ", "looks all\n", "looks \nall",
            "looks lot", "looks all all", "looks pair 0 1 2/4\nall", "looks pair 0 1 1/0\nall",
            "looks all\nheld 0 1", "looks parts\npart A", f"looks all\nheld 0 1 {'9' * 41}", "looks pair 0 1 1/2",
            "looks beginnings\norder a", "looks all\nheld  0 1 2", "looks pair 00 1 1/2\nall",
            "looks  pair 0 1 1/2\nall", "looks looks all",
        )

    def test_it_goes_ahead_of_numbers_and_of_what_the_functions_refuse(self):
        self.refuses(
            NoText, "share 99 x", "share x 99", "why 99 01", "why 01 99", "chain 9 01", "chain 01 9", "weigh A x",
            "weigh A 01", "heavy A x", f"weigh A {'9' * 41}", f"heavy - {'1' * 41}", "pairs parts 00",
            "held parts -1", "paper parts x", "why x x", "least 2/04", "least 00/0",
        )


class NoNumbers(Refusals):

    def test_numbers_by_which_no_set_stands(self):
        self.refuses(
            NoNumber, "out 3", "set 3", "share 3 0", "share 0 3", "share 3 3", "why 3 0", "why 0 3", "chain 3 0",
            "chain 0 3", "chain 3 3", "out 10", "set 99", f"chain 2 {FORTY}",
        )
        self.refuses(
            NoNumber, "out 0", "set 0", "share 0 0", "why 0 1", "why 0 0", "chain 0 0", "chain 0 1", "out 1",
            empty=True,
        )

    def test_the_first_and_the_last_set_stand(self):
        for row in (
            "out 0", "out 2", "set 0", "set 2", "share 0 2", "share 2 0", "why 0 2", "why 2 0", "chain 0 2",
            "chain 2 2",
        ):
            self.assertEqual(filled(PlainDesk()).say(row), filled(Desk()).say(row))

    def test_why_of_one_set(self):
        self.refuses(NoNumber, "why 0 0", "why 1 1", "why 2 2", "why 3 3")


class OfTheFunctions(Refusals):

    def test_kinds(self):
        self.refuses(NoKind, "kind no", "kind BOTH", "kind all", "kind -", "kind 0", "kind 1/2", "kind both.")

    def test_least_shares(self):
        self.refuses(
            NoShare, "least 0/1", "least 0/0", "least 1/0", "least 2/4", "least 3/2", "least 2/2", "least 0/5",
            f"least {FORTY}/{FORTY}", f"least {FORTY}/1", f"least 0/{FORTY}",
        )

    def test_sets(self):
        self.refuses(NoSet, "put - -", "put - a", "put a -", "put a a", "put a b a")
        for text in NO_WORDS:
            self.refuses(NoSet, f"put {text}", f"put a {text}", f"add m {text}", f"add m {text} a")
        self.refuses(NoSet, "add m - -", "add m - a", "add m a -", "add m a a", "add none A", "add n.2 a b a")

    def test_weights(self):
        for first in ("weigh", "heavy"):
            self.refuses(NoWeight, f"{first} a 0", f"{first} - 1", f"{first} A 0")
            self.refuses(NoWeight, *[f"{first} {text} 1" for text in NO_WORDS])

    def test_names(self):
        self.refuses(NoName, "add n a", "add k -", "add n A", "add A A", "add - a a", "add A a", "add - -", "add n a a")
        self.refuses(NoName, "drop m", "drop A", "drop -", "drop a", "drop " + "x" * 31)
        self.refuses(NoName, "drop n", "add N a", empty=True)

    def test_ways_and_parts(self):
        for first in ("pairs", "held"):
            ways = ("no", "All", "part", "0", "-", "length", "parts2", "none")
            self.refuses(NoWay, *[f"{first} {way}" for way in ways])
            self.refuses(NoParts, f"{first} parts 0")
            self.refuses(NoWay, f"{first} no", empty=True)
            self.refuses(NoParts, f"{first} parts 0", empty=True)
        self.refuses(NoWay, *[f"paper {way}" for way in ("no", "lengths", "places", "part", "-", "Beginnings")])
        self.refuses(NoParts, "paper parts 0")
        self.refuses(NoParts, "paper parts 0", empty=True)


if __name__ == "__main__":
    unittest.main()

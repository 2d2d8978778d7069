"""The desk's rows and answers: points 2 and 31 to 33."""

import unittest
from random import Random

from deskmodel import PlainDesk
from muchalike.desk import Desk
from muchalike.errors import LikeError

LOT = "lot\na b c\nb c d\n-\na b c\ne"
ASKING = (
    "sets", "count", "weights", "pairs all", "pairs lengths", "pairs beginnings", "pairs places", "pairs parts 3",
    "held all", "held lengths", "held beginnings", "held places", "held parts 1", "held parts 3", "paper all",
    "paper beginnings", "paper parts 2", "groups", "within", "tops", "kept", "names", "last", "order", "looks all",
)


class Case(unittest.TestCase):

    def says(self, *talk, desk=None):
        """Hold that a desk answers each row of the talk, written as row -> answer, just so."""
        desk = desk or Desk()
        for line in talk:
            row, answer = line.split(" -> ")
            self.assertEqual(answer, desk.say(row), row)
        return desk


class Beginning(Case):

    def test_no_sets_and_no_weights(self):
        self.says(
            "sets -> lot", "count -> 0", "weights -> none", "pairs all -> none", "pairs lengths -> none",
            "pairs beginnings -> none", "pairs places -> none", "pairs parts 3 -> none", "held all -> none",
            "held lengths -> none", "held beginnings -> none", "held places -> none", "held parts 1 -> none",
            "paper all -> all", "paper beginnings -> beginnings\norder\nends", "paper parts 2 -> parts\npart\npart",
            "looks all -> yes", "looks parts -> no", "may -> none", "next -> none", "may -> none", "groups -> none",
            "within -> none", "tops -> none",
        )

    def test_the_kind_is_both_and_the_least_share_a_half(self):
        self.says(
            "put a b -> ok", "put a -> ok", "put a b c d e -> ok", "share 0 1 -> 1/2 : a", "share 0 2 -> 2/5 : a b",
            "pairs all -> 0 1 1/2", "groups -> 0 1; 2",
        )

    def test_the_keeper_is_of_both_and_a_half_of_no_weights_and_no_order(self):
        desk = self.says(
            "kind lesser -> ok", "least 1/9 -> ok", "weigh b 9 -> ok", "put z -> ok",
            "order -> none", "names -> none", "last -> none", "kept -> none",
        )
        self.says(
            "add n b a -> none", "add m a -> n 1/2", "add k e d c b a -> none", "kept -> m n 1/2", "order -> a b c d e",
            desk=desk,
        )


class Keeping(Case):

    def test_kinds(self):
        desk = self.says("put a b -> ok", "put b c d e -> ok", "share 0 1 -> 1/5 : b")
        for kind, share in (("mean", "1/3"), ("greater", "1/4"), ("lesser", "1/2"), ("square", "1/8"), ("both", "1/5")):
            self.says(f"kind {kind} -> ok", f"share 0 1 -> {share} : b", f"next -> 0 1 {share}", desk=desk)

    def test_least_shares(self):
        desk = self.says("put a b -> ok", "put b c -> ok", "pairs all -> none", "least 1/3 -> ok")
        self.says("pairs all -> 0 1 1/3", "least 1/2 -> ok", "pairs all -> none", "groups -> 0; 1", desk=desk)
        self.says(f"least 1/{'9' * 20} -> ok", "pairs all -> 0 1 1/3", "groups -> 0 1", desk=desk)
        self.says("least 1/1 -> ok", "pairs all -> none", desk=desk)

    def test_lots(self):
        self.says(
            f"{LOT} -> ok", f"sets -> {LOT}", "count -> 5", "lot\nz y x\n- -> ok", "sets -> lot\nx y z\n-",
            "lot -> ok", "sets -> lot", "count -> 0", "lot\n- -> ok", "sets -> lot\n-", "set 0 -> - = 0",
        )

    def test_put_stands_behind_the_others(self):
        self.says(
            "put c a.2 a.10 -> ok", "put - -> ok", "put c -> ok", "sets -> lot\na.10 a.2 c\n-\nc", "count -> 3",
            "set 0 -> a.10 a.2 c = 3", "set 1 -> - = 0", "set 2 -> c = 1",
        )

    def test_out_at_both_ends(self):
        desk = self.says("put a -> ok", "put b -> ok", "put c -> ok", "put d -> ok", "out 3 -> ok")
        self.says("sets -> lot\na\nb\nc", "out 0 -> ok", "sets -> lot\nb\nc", "put e -> ok", "out 1 -> ok", desk=desk)
        self.says("sets -> lot\nb\ne", "out 0 -> ok", "out 0 -> ok", "sets -> lot", "count -> 0", desk=desk)

    def test_weights(self):
        self.says(
            "put a b -> ok", "put b -> ok", "set 0 -> a b = 2", "weigh b 3 -> ok", "set 0 -> a b = 4",
            "share 0 1 -> 3/4 : b", "weigh z 7 -> ok", "weigh a.10 1 -> ok", "weigh a.2 1000000 -> ok",
            "weigh b 5 -> ok", "weights -> a.10 1; a.2 1000000; b 5; z 7", "set 0 -> a b = 6", "set 1 -> b = 5",
            "plain -> ok", "weights -> none", "set 0 -> a b = 2", "weigh c 2 -> ok", "weights -> c 2",
        )

    def test_weights_stay_where_a_lot_comes_or_goes(self):
        self.says("weigh a 3 -> ok", f"{LOT} -> ok", "set 0 -> a b c = 5", "lot -> ok", "put a -> ok", "weights -> a 3")


class Asking(Case):

    def test_shares(self):
        self.says(
            f"{LOT} -> ok", "weigh b 3 -> ok", "share 0 1 -> 2/3 : b c", "share 1 0 -> 2/3 : b c",
            "share 0 3 -> 1/1 : a b c", "share 0 2 -> 0/1 : -", "share 2 2 -> 0/1 : -", "share 4 4 -> 1/1 : e",
            "share 0 4 -> 0/1 : -",
        )

    def test_pairs_held_ones_and_why_they_are_not_alike(self):
        desk = self.says("lot\nm n p q r\nm n s t u\np q r s t\nm o\n-\nu z -> ok", "least 1/3 -> ok")
        for way in ("all", "lengths", "beginnings", "places", "parts 1", "parts 3", "parts 12"):
            self.says(f"pairs {way} -> 0 2 3/7", desk=desk)
        self.says(
            "held all -> 0 1; 0 2; 0 3; 0 4; 0 5; 1 2; 1 3; 1 4; 1 5; 2 3; 2 4; 2 5; 3 4; 3 5; 4 5",
            "held lengths -> 0 1; 0 2; 0 3; 0 5; 1 2; 1 3; 1 5; 2 3; 2 5; 3 5",
            "held beginnings -> 0 1; 0 2; 1 2; 1 5", "held places -> 0 1; 0 2",
            "held parts 1 -> 0 1; 0 2; 0 3; 0 5; 1 2; 1 3; 1 5; 2 3; 2 5; 3 5", "held parts 7 -> 0 2",
            "why 0 1 -> common 2 3", "why 2 1 -> places s 2", "why 0 3 -> beginnings", "why 4 3 -> lengths 0 2",
            "why 3 4 -> lengths 2 0", "why 2 0 -> alike 3/7", "weigh p 2 -> ok", "pairs all -> 0 2 1/2",
            "why 0 2 -> alike 1/2", "why 0 4 -> lengths 6 0", "why 0 1 -> common 2 3", desk=desk,
        )

    def test_papers(self):
        desk = self.says(f"{LOT} -> ok", "weigh b 3 -> ok")
        pairs = "pair 0 1 2/3\npair 0 3 1/1\npair 1 3 2/3\n"
        held = "\nheld 0 1 4\nheld 0 3 5\nheld 1 3 4"
        told = [
            pairs + "beginnings\norder d e a b c\nends 2 2 0 2 1" + held,
            pairs + "parts\npart a c e\npart b d" + held,
            pairs + "all\nheld 0 1 4\nheld 0 2 0\nheld 0 3 5\nheld 0 4 0\nheld 1 2 0"
            "\nheld 1 3 4\nheld 1 4 0\nheld 2 3 0\nheld 2 4 0\nheld 3 4 0",
        ]
        for way, text in zip(("beginnings", "parts 2", "all"), told):
            self.says(f"paper {way} -> {text}", f"looks {text} -> yes", desk=desk)
            self.says(f"looks {text.removeprefix(pairs)} -> no", f"looks {pairs}{text} -> no", desk=desk)
        self.says("weigh b 4 -> ok", *(f"looks {text} -> no" for text in told), desk=desk)

    def test_papers_that_others_made(self):
        both = "looks pair 1 2 2/3\npair 0 2 2/3\n"
        beginnings, held = "beginnings\norder c a b\nends 2 2", "held 1 2 2\nheld 0 1 1\nheld 0 2 2"
        self.says(
            "put a b -> ok", "put b c -> ok", "put a b c -> ok", "least 2/3 -> ok",
            f"{both}parts\npart\npart c z\npart a b\nheld 1 2 2\nheld 0 2 2 -> yes",
            f"{both}parts\npart\npart c z\npart a b\nheld 1 2 2\nheld 0 2 1 -> no",
            f"{both}{beginnings} 3\n{held} -> yes", f"{both}{beginnings} 4\n{held} -> no",
            f"looks pair 0 2 2/3\n{beginnings} 3\n{held} -> no", f"{both}all\n{held} -> yes",
            f"{both}all\n{held}\nheld 0 2 2 -> no", f"looks pair 2 0 2/3\npair 1 2 2/3\nall\n{held} -> no",
        )

    def test_groups_and_chains(self):
        self.says(
            "lot\na b\nb c\nc d\n-\nz y\ny z\nd e -> ok", "groups -> 0; 1; 2; 3; 4 5; 6", "chain 0 6 -> none",
            "least 1/3 -> ok", "groups -> 0 1 2 6; 3; 4 5", "chain 0 6 -> 0 1 2 6", "chain 6 0 -> 6 2 1 0",
            "chain 0 3 -> none", "chain 3 3 -> 3", "chain 4 5 -> 4 5", "chain 0 0 -> 0", "chain 6 6 -> 6",
            "weigh c 2 -> ok", "weigh d 3 -> ok", "least 1/2 -> ok", "groups -> 0; 1; 2 6; 3; 4 5",
        )

    def test_sets_within_others_and_tops(self):
        self.says(
            "lot\na b\na\n-\nb a\nc -> ok", "within -> 0 3; 1 0; 1 3; 2 0; 2 1; 2 3; 2 4; 3 0", "tops -> 0 4",
            "out 0 -> ok", "within -> 0 2; 1 0; 1 2; 1 3", "tops -> 2 3", "lot\n- -> ok", "within -> none", "tops -> 0",
        )


class Telling(Case):

    TALK = (
        "may -> none", "next -> 0 3 1/1", "may -> 0 1; 0 3; 1 3", "next -> 0 1 1/2", "may -> 0 1; 0 3; 1 3",
        "next -> 1 3 1/2", "next -> none", "may -> 0 1; 0 3; 0 4; 1 3; 1 4; 3 4", "next -> none",
    )

    def test_one_by_one(self):
        self.says(f"{LOT} -> ok", *self.TALK)

    def test_pairs_below_the_least_share_are_told_too(self):
        self.says("least 1/1 -> ok", "put a b -> ok", "put b c -> ok", "next -> 0 1 1/3", "next -> none")

    def test_each_row_that_keeps_begins_it_anew_where_nothing_is_other(self):
        for row in ("kind both", "least 1/2", "plain", "weigh z 1", "weigh b 1", LOT, LOT.replace("a b c", "c b a")):
            for asked in range(len(self.TALK) + 1):
                self.says(*self.TALK[:asked], f"{row} -> ok", *self.TALK, desk=self.says(f"{LOT} -> ok"))

    def test_each_row_that_keeps_begins_it_anew_where_something_is(self):
        for rows, talk in (
            (["kind lesser"], ["next -> 0 3 1/1", "may -> 0 1; 0 3; 0 4; 1 3; 1 4; 3 4", "next -> 0 1 2/3"]),
            (["least 1/9"], self.TALK),
            (["put -"], self.TALK),
            (["put z y x"], ["next -> 0 3 1/1", "may -> 0 1; 0 3; 0 5; 1 3; 1 5; 3 5", "next -> 0 1 1/2"]),
            (["out 0"], ["next -> 0 2 1/2", "may -> 0 2", "next -> none", "may -> 0 2; 0 3; 2 3"]),
            (["out 4"], ["next -> 0 3 1/1", "next -> 0 1 1/2", "next -> 1 3 1/2", "next -> none"]),
            (["out 4"], ["next -> 0 3 1/1", "may -> 0 1; 0 3; 1 3", "next -> 0 1 1/2"]),
            (["weigh a 2"], ["next -> 0 3 1/1", "may -> 0 3", "next -> 0 1 2/5"]),
            (["weigh a 2", "plain"], self.TALK),
            (["lot\na\na"], ["may -> none", "next -> 0 1 1/1", "next -> none"]),
            (["lot"], ["may -> none", "next -> none", "may -> none"]),
        ):
            for asked in range(len(self.TALK) + 1):
                desk = self.says(f"{LOT} -> ok", *self.TALK[:asked])
                self.says(*[f"{row} -> ok" for row in rows], "may -> none", *talk, desk=desk)

    def test_no_other_row_begins_it_anew(self):
        rows = ASKING + (
            "set 0", "share 0 1", "why 0 2", "chain 0 1", "keeper", "add n a b", "add m a", "heavy a 2", "drop n",
        )
        desk = self.says(f"{LOT} -> ok")
        for line in self.TALK:
            for row in rows:
                desk.say(row)
            self.says(line, desk=desk)
            for row in ("drop n", "pairs no", "share 0 9", "kind no", "least 2/4", "out 9", "put A", "weigh a 0"):
                with self.assertRaises(LikeError):
                    desk.say(row)


class TheKeeper(Case):

    def test_sets_come_and_go(self):
        self.says(
            "add two b a -> none", "last -> none", "add one c b a -> two 2/3", "last -> two", "add ten a -> two 1/2",
            "names -> one ten two", "kept -> one two 2/3; ten two 1/2", "order -> a b c",
            "add nil - -> none", "last -> none", "drop one -> a b c", "kept -> ten two 1/2", "names -> nil ten two",
            "heavy b 2 -> ok", "kept -> none", "add more b z -> two 1/2", "order -> a b c z", "drop nil -> -",
            "drop ten -> a", "drop two -> a b", "drop more -> b z", "names -> none", "kept -> none",
            "last -> two", "order -> a b c z",
        )

    def test_it_stays_as_it_was_until_keeper_is_answered(self):
        desk = self.says("add n a b -> none", "add m b c -> none", "heavy b 2 -> ok", "kept -> m n 1/2")
        for row in ("kind lesser", "least 1/9", "weigh b 9", "weigh a 4", LOT, "put z", "out 0", "plain", "weigh c 3"):
            self.says(
                f"{row} -> ok", "kept -> m n 1/2", "names -> m n", "last -> n", "order -> a b c", desk=desk,
            )
        self.says("add k a -> none", "keeper -> ok", "kept -> none", "names -> none", "last -> none", desk=desk)
        self.says("order -> none", "add n a b -> none", "add m b c -> n 1/2", "add k c -> m 1/1", desk=desk)

    def test_it_is_of_what_was_kept_when_keeper_was_answered(self):
        desk = self.says("kind lesser -> ok", "least 2/3 -> ok", "weigh b 2 -> ok", "keeper -> ok", "weigh b 1 -> ok")
        self.says("kind both -> ok", "least 1/9 -> ok", "add n a b -> none", "add m b c -> n 2/3", desk=desk)
        self.says("keeper -> ok", "add n a b -> none", "add m b c -> n 1/3", "keeper -> ok", "kept -> none", desk=desk)

    def test_heavy_words_are_the_keepers_alone(self):
        self.says(
            "heavy b 2 -> ok", "weights -> none", "put b -> ok", "set 0 -> b = 1", "add n a b -> none",
            "add m b c -> n 1/2", "weigh a 9 -> ok", "kept -> m n 1/2", "plain -> ok", "kept -> m n 1/2",
            "keeper -> ok", "add n a b -> none", "add m b c -> none",
        )

    def test_the_lots_sets_are_not_its_own(self):
        self.says(f"{LOT} -> ok", "names -> none", "add n x -> none", f"sets -> {LOT}", "order -> x")


class Rows:
    """Some rows in a fixed turn, most of them good ones."""

    WORDS = ("a", "b", "c", "d", "a.1", "a.2", "a.10")
    WRONG = ("A", "-", "", "x" * 31, "a b", "01", "0", "1/2", "2/4", "lot", "parts", "9" * 41, "no")
    PAPER_WAYS = ("all", "beginnings", "parts 1", "parts 2", "parts 3", "lengths", "parts 0")
    WAYS = PAPER_WAYS + ("lengths", "places", "parts 4", "parts 12", "no", "parts")

    def __init__(self, seed):
        self.chance = Random(seed)
        self.papers = ["all"]

    def number(self, many):
        return str(self.chance.randint(0, max(0, many - 1) + (self.chance.random() < 0.15)))

    def some_set(self):
        words = self.chance.sample(self.WORDS, self.chance.randint(0, 5))
        return " ".join(words) or "-"

    def some(self, many):
        chance = self.chance
        number = self.number
        made = {
            "kind": lambda: chance.choice(("both", "mean", "greater", "lesser", "square", "sum")),
            "least": lambda: chance.choice(("1/1", "1/2", "1/3", "2/3", "3/7", "1/9", "2/4", "0/1", "3/2", "1/0")),
            "lot": lambda: None, "put": self.some_set, "out": lambda: number(many),
            "weigh": lambda: f"{chance.choice(self.WORDS)} {chance.randint(0, 5)}",
            "heavy": lambda: f"{chance.choice(self.WORDS)} {chance.randint(0, 5)}",
            "set": lambda: number(many), "share": lambda: number(many) + " " + number(many),
            "why": lambda: number(many) + " " + number(many), "chain": lambda: number(many) + " " + number(many),
            "pairs": lambda: chance.choice(self.WAYS), "held": lambda: chance.choice(self.WAYS),
            "paper": lambda: chance.choice(self.PAPER_WAYS), "looks": lambda: chance.choice(self.papers),
            "add": lambda: f"{chance.choice(self.WORDS)} {self.some_set()}", "drop": lambda: chance.choice(self.WORDS),
        }
        alone = ("sets count weights next next next may may groups within tops keeper kept names last order").split()
        first = chance.choice(alone + ["plain"] + list(made) + ["put", "put", "add", "add", "paper", "looks"])
        if first == "lot":
            return "\n".join(["lot"] + [self.some_set() for _ in range(chance.randint(0, 6))])
        row = f"{first} {made[first]()}" if first in made else first
        if chance.random() < 0.06:
            words = row.split(" ")
            words[chance.randint(0, len(words) - 1)] = chance.choice(self.WRONG)
            row = " ".join(words)
        return row


class Talks(unittest.TestCase):

    def asked(self, desk, row):
        try:
            return desk.say(row)
        except LikeError as refusal:
            return type(refusal)

    def test_some_rows_in_a_fixed_turn(self):
        answered, refused = set(), set()
        for seed in range(12):
            rows, desk, other, plain = Rows(seed), Desk(), Desk(), PlainDesk()
            for _ in range(400):
                row = rows.some(len(plain.lot))
                expected = self.asked(plain, row)
                self.assertEqual(expected, self.asked(desk, row), row)
                if isinstance(expected, str):
                    # The other desk isn't told what is refused: that changes nothing.
                    self.assertEqual(expected, other.say(row), row)
                    answered.add(row.split("\n")[0].split(" ")[0])
                    if row.startswith("paper"):
                        rows.papers.append(expected)
                else:
                    refused.add((row.split("\n")[0].split(" ")[0], expected.__name__))
        self.assertEqual(31, len(answered))
        self.assertGreater(len(refused), 40)

    def test_two_desks_share_nothing(self):
        one, other = Desk(), Desk()
        before = [other.say(row) for row in ASKING]
        for row in (LOT, "kind mean", "least 1/5", "weigh a 3", "put q", "out 1", "add n a", "heavy a 2", "next"):
            one.say(row)
        self.assertEqual(before, [other.say(row) for row in ASKING])
        self.assertEqual("none", other.say("may"))
        other.say(LOT)
        other.say("out 0")
        self.assertEqual("lot\na b c\n-\na b c\ne\nq", one.say("sets"))

    def test_asked_again_a_row_that_asks_tells_the_same(self):
        desk = Desk()
        for row in (LOT, "weigh b 3", "keeper", "add n a", "add m a b", "next"):
            desk.say(row)
        for row in ASKING + ("may", "set 0", "share 0 1", "why 0 2", "chain 0 1"):
            self.assertEqual(desk.say(row), desk.say(row))


if __name__ == "__main__":
    unittest.main()

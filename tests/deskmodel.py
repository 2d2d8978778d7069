"""What points 31 to 34 say of a desk, put together from the plain reckonings of the other tests."""

import re
from fractions import Fraction
from math import gcd

import plainly
from muchalike.errors import (
    NoKind, NoName, NoNumber, NoParts, NoRow, NoSet, NoShare, NoText, NoWay, NoWeight,
)
from muchalike.groups import chain, groups
from muchalike.papers import shown, shows_all
from muchalike.ways import why_not
from plainly import KINDS, WAYS
from test_keeper import Kept
from test_teller import held_for, told_in_turn
from test_within import plain_tops, plain_within

NUMBER = re.compile(r"0|[1-9][0-9]{0,39}")
WORD = re.compile(r"[a-z0-9.]{1,30}")
# W is any word, S one word or more; ways are told apart by their first word.
SHAPES = [re.compile(shape.replace("W", r"([^ \n]+)").replace("S", r"([^ \n]+(?: [^ \n]+)*)")) for shape in (
    "(kind) W", "(least) W", "(put) S", "(out) W", "(weigh) W W", "(plain)", "(sets)", "(count)", "(weights)",
    "(set) W", "(share) W W", "(pairs|held|paper) (parts) W", r"(pairs|held|paper) (?!parts(?: |\Z))W", "(why) W W",
    "(next)", "(may)", "(groups)", "(chain) W W", "(within)", "(tops)", "(add) W S", "(drop) W", "(heavy) W W",
    "(keeper)", "(kept)", "(names)", "(last)", "(order)",
)]
# At which places of a row numbers stand, and at which of them those of sets.
NUMBERS = {
    "out": (1,), "weigh": (2,), "set": (1,), "share": (1, 2), "why": (1, 2), "chain": (1, 2), "heavy": (2,),
    "pairs": (2,), "held": (2,), "paper": (2,),
}
OF_SETS = ("out", "set", "share", "why", "chain")


def number_of(text):
    if not NUMBER.fullmatch(text):
        raise NoText
    return int(text)


def fraction_of(text):
    if text.count("/") != 1:
        raise NoText
    top, bottom = text.split("/")
    return (number_of(top), number_of(bottom))


def share_of(text):
    top, bottom = fraction_of(text)
    if bottom == 0 or gcd(top, bottom) > 1:
        raise NoText
    return (top, bottom)


def set_of(text):
    words = [] if text == "-" else text.split(" ")
    if any(not WORD.fullmatch(word) for word in words) or len(set(words)) < len(words):
        raise NoSet
    return words


def lot_of(text):
    first, *lines = text.split("\n")
    try:
        lot = [set_of(line) for line in lines]
    except NoSet:
        raise NoText from None
    if first != "lot":
        raise NoText
    return lot


def words_behind(first, line):
    one, *words = line.split(" ")
    if one != first or any(not WORD.fullmatch(word) for word in words):
        raise NoText
    return words


def paper_of(text):
    lines = text.split("\n")
    pairs, held = [], []
    while lines and lines[0].startswith("pair "):
        words = lines.pop(0).split(" ")
        if len(words) != 4:
            raise NoText
        pairs.append((number_of(words[1]), number_of(words[2]), share_of(words[3])))
    while lines and lines[-1].startswith("held "):
        words = lines.pop().split(" ")
        if len(words) != 4:
            raise NoText
        held.insert(0, tuple(map(number_of, words[1:])))
    if lines == ["all"]:
        return pairs, ("all", held)
    if lines[:1] == ["parts"]:
        return pairs, ("parts", [words_behind("part", line) for line in lines[1:]], held)
    if lines[:1] == ["beginnings"] and len(lines) == 3:
        first, *ends = lines[2].split(" ")
        if first != "ends":
            raise NoText
        return pairs, ("beginnings", words_behind("order", lines[1]), list(map(number_of, ends)), held)
    raise NoText


def listed(lines):
    return "; ".join(lines) or "none"


def line_of(things):
    return " ".join(map(str, things)) or "none"


def text_of(share):
    return f"{share[0]}/{share[1]}"


def line_of_pair(pair):
    return f"{pair[0]} {pair[1]} {text_of(pair[2])}"


def text_of_set(words):
    return " ".join(sorted(words)) or "-"


def text_of_paper(pairs, paper):
    lines = ["pair " + line_of_pair(pair) for pair in pairs] + [paper[0]]
    if paper[0] == "beginnings":
        lines += [" ".join(["order", *paper[1]]), " ".join(["ends", *map(str, paper[2])])]
    if paper[0] == "parts":
        lines += [" ".join(["part", *part]) for part in paper[1]]
    return "\n".join(lines + ["held " + line_of(triple) for triple in paper[-1]])


class PlainDesk:

    def __init__(self):
        self.kind, self.least, self.lot, self.weights = "both", (1, 2), [], {}
        self.asked = 0
        self.kept = Kept(self.kind, self.least, {}, [])

    def say(self, row):
        first = re.match(r"[^ \n]*", row).group()
        if first == "lot":
            self.lot = lot_of(row)
            self.asked = 0
            return "ok"
        if first == "looks":
            if not row.startswith("looks ") or len(row) == 6:
                raise NoRow
            pairs, paper = paper_of(row[6:])
            return "yes" if shows_all(self.kind, self.least, self.lot, self.weights, pairs, paper) else "no"
        words = [match.groups() for match in (shape.fullmatch(row) for shape in SHAPES) if match]
        if not words:
            raise NoRow
        return self.answer(list(words[0]))

    def answer(self, words):
        first = words[0]
        for at in NUMBERS.get(first, ()):
            if at < len(words):
                words[at] = number_of(words[at])
        if first == "least":
            words[1] = fraction_of(words[1])
        if first in OF_SETS:
            if any(number >= len(self.lot) for number in words[1:]) or first == "why" and words[1] == words[2]:
                raise NoNumber
        return getattr(self, "say_" + first)(*words[1:])

    def keeps(self):
        self.asked = 0
        return "ok"

    def say_kind(self, kind):
        if kind not in KINDS:
            raise NoKind
        self.kind = kind
        return self.keeps()

    def say_least(self, least):
        if not 0 < least[0] <= least[1] or gcd(*least) > 1:
            raise NoShare
        self.least = least
        return self.keeps()

    def say_put(self, text):
        self.lot = self.lot + [set_of(text)]
        return self.keeps()

    def say_out(self, number):
        self.lot = self.lot[:number] + self.lot[number + 1:]
        return self.keeps()

    def say_weigh(self, word, number):
        if number < 1 or not WORD.fullmatch(word):
            raise NoWeight
        self.weights = {**self.weights, word: number}
        return self.keeps()

    def say_plain(self):
        self.weights = {}
        return self.keeps()

    def say_sets(self):
        return "\n".join(["lot"] + [text_of_set(words) for words in self.lot])

    def say_count(self):
        return str(len(self.lot))

    def say_weights(self):
        return listed(f"{word} {self.weights[word]}" for word in sorted(self.weights))

    def say_set(self, number):
        return f"{text_of_set(self.lot[number])} = {plainly.weigh(self.lot[number], self.weights)}"

    def share(self, i, j):
        share = plainly.share(self.kind, self.lot[i], self.lot[j], self.weights)
        return (share.numerator, share.denominator)

    def say_share(self, i, j):
        both = [word for word in self.lot[i] if word in self.lot[j]]
        return f"{text_of(self.share(i, j))} : {text_of_set(both)}"

    def rare(self):
        words = sorted({word for words in self.lot for word in words})
        return sorted(words, key=lambda word: sum(word in words for words in self.lot))

    def held(self, way, many=None):
        if way not in WAYS:
            raise NoWay
        by = self.rare()
        if way == "parts":
            if many < 1:
                raise NoParts
            words = sorted(by)
            by = [[word for k, word in enumerate(words) if k % many == at] for at in range(many)]
        return plainly.held(way, self.kind, self.least, self.lot, self.weights, by)

    def pairs(self):
        return plainly.alike(self.kind, self.least, self.lot, self.weights)

    def say_pairs(self, way, many=None):
        self.held(way, many)
        return listed(map(line_of_pair, self.pairs()))

    def say_held(self, way, many=None):
        return listed(map(line_of, self.held(way, many)))

    def say_why(self, i, j):
        if Fraction(*self.share(i, j)) >= Fraction(*self.least):
            return "alike " + text_of(self.share(i, j))
        return line_of(why_not(self.kind, self.least, self.lot[i], self.lot[j], self.weights, self.rare()))

    def say_paper(self, way, many=0):
        return text_of_paper(*shown(way, self.kind, self.least, self.lot, self.weights, many))

    def say_next(self):
        due = told_in_turn(self.kind, self.lot, self.weights)
        self.asked += 1
        return line_of_pair(due[self.asked - 1]) if self.asked <= len(due) else "none"

    def say_may(self):
        due = told_in_turn(self.kind, self.lot, self.weights)
        if self.asked == 0:
            return "none"
        last = due[self.asked - 1][2] if self.asked <= len(due) else None
        return listed(map(line_of, held_for(self.kind, self.lot, self.weights, last)))

    def say_groups(self):
        return listed(map(line_of, groups(self.pairs(), len(self.lot))))

    def say_chain(self, i, j):
        return line_of(chain(self.pairs(), len(self.lot), i, j) or [])

    def say_within(self):
        return listed(map(line_of, plain_within(self.lot)))

    def say_tops(self):
        return line_of(plain_tops(self.lot))

    def say_add(self, name, text):
        if not WORD.fullmatch(name) or name in self.kept.sets:
            raise NoName
        return listed(f"{other} {text_of(share)}" for other, share in self.kept.add(name, set_of(text)))

    def say_drop(self, name):
        if name not in self.kept.sets:
            raise NoName
        return text_of_set(self.kept.drop(name))

    def say_heavy(self, word, number):
        if number < 1 or not WORD.fullmatch(word):
            raise NoWeight
        self.kept.weigh(word, number)
        return "ok"

    def say_keeper(self):
        self.kept = Kept(self.kind, self.least, self.weights, [])
        return "ok"

    def say_kept(self):
        return listed(map(line_of_pair, self.kept.pairs()))

    def say_names(self):
        return line_of(sorted(self.kept.sets))

    def say_last(self):
        return line_of(self.kept.last)

    def say_order(self):
        return line_of(self.kept.words)

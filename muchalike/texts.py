"""Numbers, shares, sets, lots and papers, written as texts and read back."""

from math import gcd

from muchalike.errors import NoText
from muchalike.sets import are_unlike_words, is_word

FIGURES = "0123456789"
MOST_FIGURES = 40
EMPTY_SET = "-"


def spaced(things):
    """Write numbers or texts with a blank between two."""
    return " ".join([f"{thing}" for thing in things])


def share_text(share):
    """Write a share, or another fraction."""
    top, bottom = share
    return f"{top}/{bottom}"


def set_text(words):
    """Write a set, its words in the order of texts."""
    return spaced(sorted(words)) if words else EMPTY_SET


def pair_text(pair):
    """Write the two of a pair and their share."""
    one, other, share = pair
    return spaced([one, other, share_text(share)])


def lot_text(lot):
    """Write a lot."""
    return "\n".join(["lot"] + [set_text(words) for words in lot])


def _head_lines(head):
    """Write what stands in a paper ahead of the held pairs."""
    if head[0] == "beginnings":
        _, order, ends = head
        return ["beginnings", spaced(["order"] + order), spaced(["ends"] + ends)]
    if head[0] == "parts":
        return ["parts"] + [spaced(["part"] + part) for part in head[1]]
    return ["all"]


def paper_text(pairs, paper):
    """Write pairs and a paper, whatever it shows."""
    lines = [f"pair {pair_text(pair)}" for pair in pairs] + _head_lines(paper[:-1])
    return "\n".join(lines + [f"held {spaced(triple)}" for triple in paper[-1]])


def _rows_of(text):
    """Tell for each line of a text what stands between its blanks."""
    return [line.split(" ") for line in text.split("\n")]


def read_number(text):
    """Read a number."""
    if not 1 <= len(text) <= MOST_FIGURES or not all(sign in FIGURES for sign in text):
        raise NoText("a number is written by at most forty figures")
    if text[0] == "0" and text != "0":
        raise NoText("a number is written without a needless 0 ahead")
    return int(text)


def _read_numbers(texts):
    """Read numbers."""
    return [read_number(text) for text in texts]


def read_fraction(text):
    """Read a top and a bottom, any numbers."""
    top, _, bottom = text.partition("/")
    return (read_number(top), read_number(bottom))


def _read_share(text):
    """Read a share."""
    top, bottom = read_fraction(text)
    if bottom == 0 or gcd(top, bottom) != 1:
        raise NoText("a share has a bottom from 1 on and is in lowest terms")
    return (top, bottom)


def _read_words(texts):
    """Read words, perhaps some of them twice."""
    if not all(is_word(text) for text in texts):
        raise NoText("what is no word stands where words do")
    return texts


def _read_set(texts):
    """Read a set, its words in any order."""
    if texts == [EMPTY_SET]:
        return []
    if not are_unlike_words(texts):
        raise NoText("a line of a lot is no set")
    return sorted(texts)


def read_lot(text):
    """Read a lot."""
    rows = _rows_of(text)
    if rows[0] != ["lot"]:
        raise NoText("a lot begins with a line of its own")
    return [_read_set(row) for row in rows[1:]]


def _read_pair(row):
    """Read a line with a pair and its share."""
    if len(row) != 4:
        raise NoText("a pair has two numbers and a share")
    return (read_number(row[1]), read_number(row[2]), _read_share(row[3]))


def _read_held(row):
    """Read a line with a pair that is held and what both have in common."""
    if len(row) != 4 or row[0] != "held":
        raise NoText("held are two numbers and what they have in common, and nothing stands behind them")
    return (read_number(row[1]), read_number(row[2]), read_number(row[3]))


def _many_ahead(rows, word):
    """Tell how many rows at the beginning have this first word."""
    many = 0
    while many < len(rows) and rows[many][0] == word:
        many += 1
    return many


def _read_head(rows):
    """Read what stands in a paper ahead of the held pairs; tell it, and how many lines it has."""
    if rows[:1] == [["all"]]:
        return (("all",), 1)
    if rows[:1] == [["parts"]]:
        many = 1 + _many_ahead(rows[1:], "part")
        return (("parts", [_read_words(row[1:]) for row in rows[1:many]]), many)
    if rows[:1] == [["beginnings"]] and [row[0] for row in rows[1:3]] == ["order", "ends"]:
        return (("beginnings", _read_words(rows[1][1:]), _read_numbers(rows[2][1:])), 3)
    raise NoText("a paper is by all, by beginnings with an order and ends, or by parts")


def read_paper(text):
    """Read pairs and a paper, whatever it shows."""
    rows = _rows_of(text)
    many = _many_ahead(rows, "pair")
    pairs = [_read_pair(row) for row in rows[:many]]
    head, lines = _read_head(rows[many:])
    return (pairs, head + ([_read_held(row) for row in rows[many + lines:]],))

"""Rows as a desk is told them: which there are, and what each hands in."""

from muchalike.errors import NoRow
from muchalike.texts import EMPTY_SET, read_fraction, read_lot, read_number, read_paper

# What stands behind the first word: a word for each thing, but one or more for a set, and two for a way by parts.
FORMS = {
    "kind": ("text",), "least": ("fraction",), "put": ("set",), "out": ("number",), "weigh": ("text", "number"),
    "plain": (),
    "sets": (), "count": (), "weights": (), "set": ("number",), "share": ("number", "number"),
    "pairs": ("way",), "held": ("way",), "why": ("number", "number"), "paper": ("way",),
    "next": (), "may": (), "groups": (), "chain": ("number", "number"), "within": (), "tops": (),
    "add": ("text", "set"), "drop": ("text",), "heavy": ("text", "number"), "keeper": (), "kept": (), "names": (),
    "last": (), "order": (),
}
LOOKS = "looks "


def _first_word(row):
    """Tell all of a row ahead of its first blank or line end."""
    return row.split("\n")[0].split(" ")[0]


def _are_so_many(words, forms):
    """Tell whether there are as many words behind the first one as the forms want."""
    if "set" in forms:
        return len(words) >= len(forms)
    if "way" in forms and words[:1] == ["parts"]:
        return len(words) == 2
    return len(words) == len(forms)


def _things_of(form, words):
    """Read what stands at the beginning of some words by its form."""
    if form == "number":
        return [read_number(words[0])]
    if form == "fraction":
        return [read_fraction(words[0])]
    if form == "way":
        return [words[0], read_number(words[1]) if words[0] == "parts" else 0]
    if form == "set":
        return [[] if words == [EMPTY_SET] else words]
    return [words[0]]


def _read_words(first, row):
    """Read a row of words with a blank between two."""
    words = row.split(" ")
    if first not in FORMS or "\n" in row or "" in words:
        raise NoRow("no row begins so, or it has a line end or blanks without a word between")
    forms = FORMS[first]
    if not _are_so_many(words[1:], forms):
        raise NoRow("too few words or too many")
    told = [first]
    for at, form in enumerate(forms):
        told.extend(_things_of(form, words[at + 1:]))
    return told


def read_row(row):
    """Tell the first word of a row and what it hands in, or refuse it with NoRow, and behind that with NoText."""
    first = _first_word(row)
    if first == "lot":
        return [first, read_lot(row)]
    if first != "looks":
        return _read_words(first, row)
    if not row.startswith(LOOKS) or row == LOOKS:
        raise NoRow("looks has a text behind a blank")
    pairs, paper = read_paper(row.removeprefix(LOOKS))
    return [first, pairs, paper]

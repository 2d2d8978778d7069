"""Papers that show that no pair is missed, and the judge that looks at them.

A paper's head is all of it but the held pairs, which stand last.
"""

from muchalike.errors import NoWay
from muchalike.forms import are_listed_wholes, are_texts, are_wholes
from muchalike.orders import beginning, in_places, is_order, places_of, rare_order
from muchalike.parts import are_parts, even_parts
from muchalike.sets import all_pairs, alike_among, check_lot, common
from muchalike.shares import check_kind_and_least
from muchalike.ways import let_by, share_words

PAPER_WAYS = ("all", "beginnings", "parts")


def _ends(kind, least, lot, weights, order):
    """Tell for each set how many words its beginning has."""
    return [len(beginning(kind, least, words, weights, order)) for words in lot]


def _head(way, kind, least, lot, weights, many):
    """Tell the head of the paper that is told by a way."""
    if way == "all":
        return ("all",)
    if way == "parts":
        return ("parts", even_parts(lot, many))
    order = rare_order(lot)
    return ("beginnings", order, _ends(kind, least, lot, weights, order))


def _to_hold(kind, least, lot, weights, head):
    """Tell the pairs that a paper with such a head is to hold, in order."""
    pairs = all_pairs(len(lot))
    if head[0] == "all":
        return pairs
    if head[0] == "parts":
        return let_by("parts", kind, least, pairs, lot, lot, weights, head[1])
    _, order, ends = head
    places = places_of(order)
    firsts = [in_places(words, places)[:end] for words, end in zip(lot, ends)]
    mated = let_by("lengths", kind, least, pairs, lot, lot, weights, None)
    return [(i, j) for i, j in mated if share_words(firsts[i], firsts[j])]


def _with_common(pairs, lot, weights):
    """Tell the pairs, each with what both sets have in common."""
    return [(i, j, common(lot[i], lot[j], weights)[1]) for i, j in pairs]


def shown(way, kind, least, lot, weights, many):
    """Tell the pairs of a lot, and a paper that shows that none is missed."""
    check_kind_and_least(kind, least)
    check_lot(lot, weights)
    if way not in PAPER_WAYS:
        raise NoWay("no paper is told by such a way")
    head = _head(way, kind, least, lot, weights, many)
    pairs = _to_hold(kind, least, lot, weights, head)
    paper = head + (_with_common(pairs, lot, weights),)
    return (alike_among(kind, least, pairs, lot, lot, weights), paper)


def _are_ends(kind, least, lot, weights, order, ends):
    """Tell whether a thing tells for each set from where to where its first words may go."""
    if not are_listed_wholes(ends, len(lot)):
        return False
    lowest = _ends(kind, least, lot, weights, order)
    return all([low <= end <= len(words) for low, end, words in zip(lowest, ends, lot)])


def _is_head(kind, least, lot, weights, head):
    """Tell whether a tuple of anything at all is a paper's head."""
    if len(head) == 3 and head[0] == "beginnings":
        _, order, ends = head
        return are_texts(order) and is_order(order, lot) and _are_ends(kind, least, lot, weights, order, ends)
    if len(head) == 2 and head[0] == "parts":
        parts = head[1]
        return isinstance(parts, list) and all(are_texts(part) for part in parts) and are_parts(parts, lot)
    return head == ("all",)


def _holds(things, triples):
    """Tell whether anything at all is a list of just these triples, each once, in any order."""
    if not isinstance(things, list) or not all(are_wholes(triple, 3) for triple in things):
        return False
    return sorted(things) == triples


def _is_pair(thing):
    """Tell whether a thing has the form of a pair with a share."""
    return isinstance(thing, tuple) and len(thing) == 3 and are_wholes(thing[:2], 2) and are_wholes(thing[2], 2)


def _tells(things, pairs):
    """Tell whether anything at all is a list of just these pairs, each once, in any order."""
    if not isinstance(things, list) or not all(_is_pair(pair) for pair in things):
        return False
    return sorted(things) == pairs


def shows_all(kind, least, lot, weights, pairs, paper):
    """Judge whether the paper is one, and shows that the pairs are all that are so much alike."""
    if not isinstance(paper, tuple) or not _is_head(kind, least, lot, weights, paper[:-1]):
        return False
    due = _to_hold(kind, least, lot, weights, paper[:-1])
    if not _holds(paper[-1], _with_common(due, lot, weights)):
        return False
    return _tells(pairs, alike_among(kind, least, due, lot, lot, weights))

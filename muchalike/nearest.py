"""The sets of a lot that are the most alike to one of them."""

from muchalike.errors import NoNumber, NoSize
from muchalike.sets import check_lot, shares_among, weight
from muchalike.shares import check_kind, may_share, most_bottom, rank, reaches


def _nearest_first(kind, lot, weights, i):
    """Tell all other sets with something in common, the most alike first, of like ones the lesser number."""
    most = most_bottom([weight(words, weights) for words in lot])
    shares = shares_among(kind, [(i, j) for j in range(len(lot)) if j != i], lot, lot, weights)
    alike = [(-rank(share, most), j, share) for _, j, share in shares if share[0] > 0]
    return [(j, share) for _, j, share in sorted(alike)]


def _held_for(kind, lot, weights, i, told, many):
    """Tell the other sets that are held: all with words, or those that may share as much as the last one told."""
    heavy = [weight(words, weights) for words in lot]
    others = [j for j in range(len(lot)) if j != i and heavy[i] > 0 and heavy[j] > 0]
    if len(told) < many:
        return others
    _, last = told[-1]
    return [j for j in others if reaches(may_share(kind, heavy[i], heavy[j]), last)]


def nearest(kind, lot, weights, i, many):
    """Tell the sets, as many, that are the most alike to a lot's set, and those held for it."""
    check_kind(kind)
    check_lot(lot, weights)
    if not 0 <= i < len(lot):
        raise NoNumber("no set stands by this number")
    if many < 1:
        raise NoSize("the nearest are one set at least")
    told = _nearest_first(kind, lot, weights, i)[:many]
    return (told, _held_for(kind, lot, weights, i, told, many))


def friends(kind, lot, weights):
    """Tell all pairs of sets of which each is the other's first nearest."""
    check_kind(kind)
    check_lot(lot, weights)
    firsts = [_nearest_first(kind, lot, weights, i)[:1] for i in range(len(lot))]
    pairs = [(i, j, share) for i, first in enumerate(firsts) for j, share in first]
    return [(i, j, share) for i, j, share in pairs if i < j and firsts[j] == [(i, share)]]

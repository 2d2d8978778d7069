"""Pairs of two lots: each set of the one is held against each of the other alone."""

from muchalike.sets import alike_among, check_lot
from muchalike.shares import check_kind_and_least
from muchalike.ways import check_way, let_by


def held_between(way, kind, least, one, other, weights, by):
    """Tell the pairs, of a set of the one lot and one of the other, that a way holds."""
    check_kind_and_least(kind, least)
    check_lot(one + other, weights)
    check_way(way, one + other, by)
    pairs = [(i, j) for i in range(len(one)) for j in range(len(other))]
    return let_by(way, kind, least, pairs, one, other, weights, by)


def found_between(way, kind, least, one, other, weights, by):
    """Tell the pairs that a way holds and that are so much alike, each with its share."""
    held = held_between(way, kind, least, one, other, weights, by)
    return alike_among(kind, least, held, one, other, weights)

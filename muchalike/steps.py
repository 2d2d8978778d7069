"""The steps of a lot: at which least shares its pairs and groups change."""

from muchalike.groups import groups
from muchalike.sets import all_pairs, check_lot, shares_among, weight
from muchalike.shares import check_kind, most_bottom, rank, reaches


def steps(kind, lot, weights):
    """Tell each share that two sets have, the greatest first, with how many pairs and groups come of it."""
    check_kind(kind)
    check_lot(lot, weights)
    shares = shares_among(kind, all_pairs(len(lot)), lot, lot, weights)
    pairs = [pair for pair in shares if pair[2][0] > 0]
    most = most_bottom([weight(words, weights) for words in lot])
    ranked = {rank(pair[2], most): pair[2] for pair in pairs}
    told = []
    for place in sorted(ranked, reverse=True):
        alike = [pair for pair in pairs if reaches(pair[2], ranked[place])]
        told.append((ranked[place], len(alike), len(groups(alike, len(lot)))))
    return told

"""The ways: which pairs of sets are held against one another, and which of these are alike."""

from muchalike.errors import NoWay
from muchalike.orders import begins_of, check_order, places_of, rests_of
from muchalike.parts import agree, check_parts, must_agree
from muchalike.sets import all_pairs, alike_among, check_lot, common, weight
from muchalike.shares import are_mates, check_kind_and_least, need

WAYS = ("all", "lengths", "beginnings", "places", "parts")


def check_way(way, lot, by):
    """Refuse a way that isn't known, and behind it what is no order or no parts for the lot."""
    if way not in WAYS:
        raise NoWay("none of the five ways")
    if way in ("beginnings", "places"):
        check_order(by, lot)
    if way == "parts":
        check_parts(by, lot)


def share_words(one, other):
    """Tell whether two lists have a word in common."""
    return len(set(one) & set(other)) > 0


def _first_of_both(one, other):
    """Tell the first word in the order that both have, of the rests of two sets with such a word."""
    both = [word for word in one if word in other]
    return both[0]


def _lesser_rest(one, other):
    """Tell the lesser of both rests at the first word that both have."""
    word = _first_of_both(one, other)
    return min(one[word], other[word])


def let_by(way, kind, least, pairs, one, other, weights, by):
    """Tell those of the pairs, i of the one lot and j of the other, that the way lets by."""
    if way == "all":
        return list(pairs)
    heavy = [weight(words, weights) for words in one]
    others = [weight(words, weights) for words in other]
    mated = [(i, j) for i, j in pairs if are_mates(kind, least, heavy[i], others[j])]
    if way == "lengths":
        return mated
    if way == "parts":
        return [
            (i, j) for i, j in mated
            if len(agree(one[i], other[j], by)) >= must_agree(kind, least, heavy[i], others[j], len(by))
        ]
    places = places_of(by)
    rests = [rests_of(words, weights, places) for words in one]
    theirs = [rests_of(words, weights, places) for words in other]
    begun = _begun_alike(kind, least, mated, rests, theirs)
    if way == "beginnings":
        return begun
    return [
        (i, j) for i, j in begun
        if _lesser_rest(rests[i], theirs[j]) >= need(kind, least, heavy[i], others[j])
    ]


def _begun_alike(kind, least, pairs, rests, theirs):
    """Tell those of the pairs whose beginnings have a word in common."""
    begins = [begins_of(kind, least, some) for some in rests]
    others = [begins_of(kind, least, some) for some in theirs]
    return [(i, j) for i, j in pairs if share_words(begins[i], others[j])]


def held(way, kind, least, lot, weights, by):
    """Tell the pairs of a lot that a way holds."""
    check_kind_and_least(kind, least)
    check_lot(lot, weights)
    check_way(way, lot, by)
    return let_by(way, kind, least, all_pairs(len(lot)), lot, lot, weights, by)


def found(way, kind, least, lot, weights, by):
    """Tell the pairs that a way holds and that are so much alike, each with its share."""
    return alike_among(kind, least, held(way, kind, least, lot, weights, by), lot, lot, weights)


def why_not(kind, least, one, other, weights, order):
    """Tell why two sets are not so much alike, or None where they are."""
    check_kind_and_least(kind, least)
    a = weight(one, weights)
    b = weight(other, weights)
    if not are_mates(kind, least, a, b):
        return ("lengths", a, b)
    places = places_of(order)
    rests = rests_of(one, weights, places)
    theirs = rests_of(other, weights, places)
    if not share_words(begins_of(kind, least, rests), begins_of(kind, least, theirs)):
        return ("beginnings",)
    needed = need(kind, least, a, b)
    less = _lesser_rest(rests, theirs)
    if less < needed:
        return ("places", _first_of_both(rests, theirs), less)
    _, both_have = common(one, other, weights)
    if both_have < needed:
        return ("common", both_have, needed)
    return None

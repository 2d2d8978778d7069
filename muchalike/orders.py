"""Orders of words, and what sets are in them: beginnings and rests."""

from muchalike.errors import NoOrder
from muchalike.sets import are_unlike_words, has_words_of, weight
from muchalike.shares import check_kind_and_least, least_need


def is_order(texts, lot):
    """Tell whether a list of texts is an order for the lot."""
    return are_unlike_words(texts) and has_words_of(lot, texts)


def check_order(texts, lot):
    """Refuse a list of texts that is no order for the lot."""
    if not is_order(texts, lot):
        raise NoOrder("an order has unlike words, all those of the lot among them")


def rare_order(lot):
    """Tell the words of a lot, those in fewer sets first, alike ones in the order of texts."""
    many = {}
    for words in lot:
        for word in words:
            many[word] = many.get(word, 0) + 1
    return sorted(many, key=lambda text: (many[text], text))


def places_of(order):
    """Tell for each word of an order at which place it stands."""
    return {word: at for at, word in enumerate(order)}


def in_places(words, places):
    """Tell the words of a set as they stand in the order of the places."""
    return sorted(words, key=lambda word: places[word])


def rests_of(words, weights, places):
    """Tell the rest of a set at each of its words, the words as they stand in the order."""
    rests = {}
    left = weight(words, weights)
    for word in in_places(words, places):
        rests[word] = left
        left -= weights.get(word, 1)
    return rests


def begins_of(kind, least, rests):
    """Tell the words of a set's beginning, of the rests at each of its words in the order."""
    if not rests:
        return []
    # The greatest rest, at the first word, is what all of the set weighs.
    enough = least_need(kind, least, max(rests.values()))
    return [word for word in rests if rests[word] >= enough]


def beginning(kind, least, words, weights, order):
    """Tell the beginning of a set in an order."""
    check_kind_and_least(kind, least)
    return begins_of(kind, least, rests_of(words, weights, places_of(order)))


def rest(words, weights, order, word):
    """Tell the rest of a set at one of its words in an order."""
    return rests_of(words, weights, places_of(order))[word]

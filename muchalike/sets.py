"""Words, sets, lots and weights, and the pairs of a lot that are so much alike."""

from muchalike.errors import NoSet, NoWeight
from muchalike.shares import check_kind_and_least, reaches, share_of

SIGNS = "abcdefghijklmnopqrstuvwxyz0123456789."
MOST_SIGNS = 30


def is_word(text):
    """Tell whether a text is a word."""
    return 1 <= len(text) <= MOST_SIGNS and all(sign in SIGNS for sign in text)


def are_unlike_words(texts):
    """Tell whether texts are words, none of them twice."""
    return all(is_word(text) for text in texts) and len(set(texts)) == len(texts)


def check_set(words):
    """Refuse a list of texts that is no set."""
    if not are_unlike_words(words):
        raise NoSet("a set is a list of unlike words")


def check_sets(lot):
    """Refuse a lot that has a list that is no set."""
    for words in lot:
        check_set(words)


def check_weights(weights):
    """Refuse weights of what is no word, or below 1."""
    for word, number in weights.items():
        if not is_word(word):
            raise NoWeight("a weight is told for what is no word")
        if number < 1:
            raise NoWeight("a weight is below 1")


def check_lot(lot, weights):
    """Refuse a lot that is none, and behind it weights that are none."""
    check_sets(lot)
    check_weights(weights)


def words_of(lot):
    """Tell the words of a lot, each once, in the order of texts."""
    return sorted({word for words in lot for word in words})


def has_words_of(lot, texts):
    """Tell whether all words of a lot stand among the texts."""
    return len(set(words_of(lot)) - set(texts)) == 0


def weight(words, weights):
    """Tell what words weigh together; one without a weight of its own weighs 1."""
    return sum(weights.get(word, 1) for word in words)


def common(one, other, weights):
    """Tell the words that both sets have, in the order of texts, and their weight."""
    words = sorted(set(one) & set(other))
    return (words, weight(words, weights))


def share_of_sets(kind, one, other, weights):
    """Tell the share of two sets."""
    _, both_have = common(one, other, weights)
    return share_of(kind, weight(one, weights), weight(other, weights), both_have)


def all_pairs(many):
    """Tell all pairs (i, j), i below j, of numbers below the count, in order."""
    return [(i, j) for i in range(many) for j in range(i + 1, many)]


def shares_among(kind, pairs, one, other, weights):
    """Tell the pairs, i of the one lot and j of the other, each with its share."""
    return [(i, j, share_of_sets(kind, one[i], other[j], weights)) for i, j in pairs]


def alike_among(kind, least, pairs, one, other, weights):
    """Tell those of the pairs, i of the one lot and j of the other, that are so much alike."""
    shares = shares_among(kind, pairs, one, other, weights)
    return [(i, j, share) for i, j, share in shares if reaches(share, least)]


def plain_pairs(kind, least, lot, weights):
    """Tell all pairs of a lot that are so much alike, by holding each against each other."""
    check_kind_and_least(kind, least)
    check_lot(lot, weights)
    return alike_among(kind, least, all_pairs(len(lot)), lot, lot, weights)

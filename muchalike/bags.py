"""Bags: lists of words, each as often as it comes."""

from muchalike.errors import NoSet
from muchalike.sets import check_weights, is_word
from muchalike.shares import check_kind, share_of

# Behind a word of so many signs a point and a number of five figures still make a word.
MOST_SIGNS_IN_BAGS = 24


def _check_bags(bags):
    """Refuse bags that have a list that is no bag."""
    for bag in bags:
        for text in bag:
            if not is_word(text) or len(text) > MOST_SIGNS_IN_BAGS:
                raise NoSet("a bag is a list of words of at most 24 signs")


def times_of(texts):
    """Tell for each text how often it comes."""
    times = {}
    for text in texts:
        times[text] = times.get(text, 0) + 1
    return times


def common_of_lists(one, other, weights):
    """Tell what two lists of texts have in common, each text as often as it comes less often."""
    theirs = times_of(other)
    return sum([
        weights.get(text, 1) * min(many, theirs.get(text, 0)) for text, many in times_of(one).items()
    ])


def bag_common(one, other, weights):
    """Tell the weight of what two bags have in common."""
    _check_bags([one, other])
    check_weights(weights)
    return common_of_lists(one, other, weights)


def bag_share(kind, one, other, weights):
    """Tell the share of two bags."""
    check_kind(kind)
    both_have = bag_common(one, other, weights)
    return share_of(kind, bag_common(one, one, weights), bag_common(other, other, weights), both_have)


def _spread_words(bag):
    """Tell for each word of a bag's spread set the word that it comes from."""
    return {f"{word}.{k}": word for word, many in times_of(bag).items() for k in range(1, many + 1)}


def spread(bag):
    """Tell the set with a word of its own for each time that a word of the bag comes."""
    _check_bags([bag])
    return sorted(_spread_words(bag))


def spread_weights(bags, weights):
    """Tell the weights of the words of the bags' spread sets."""
    _check_bags(bags)
    check_weights(weights)
    words = {}
    for bag in bags:
        words.update(_spread_words(bag))
    return {text: weights.get(words[text], 1) for text in sorted(words)}

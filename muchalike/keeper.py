"""A keeper of sets that come and go."""

from muchalike.errors import NoName, NoOrder
from muchalike.sets import alike_among, all_pairs, are_unlike_words, check_set, check_weights, is_word
from muchalike.shares import check_kind_and_least
from muchalike.ways import let_by


class Keeper:
    """Keeps sets by names, and tells which of them are so much alike."""

    def __init__(self, kind, least, weights, order):
        check_kind_and_least(kind, least)
        check_weights(weights)
        if not are_unlike_words(order):
            raise NoOrder("an order is a list of unlike words")
        self._kind = kind
        self._least = least
        self._weights = dict(weights)
        self._order = list(order)
        self._sets = {}
        self._last_held = []

    def add(self, name, words):
        """Keep a set by its name; tell the names of those so much alike, with the shares."""
        if not is_word(name):
            raise NoName("a name is a word")
        if name in self._sets:
            raise NoName("a set is kept by this name")
        check_set(words)
        new = sorted(set(words) - set(self._order))
        self._order.extend(new)
        names = self.names()
        kept = self._kept(names)
        pairs = self._held_of([(0, j) for j in range(len(names))], [words], kept)
        self._last_held = [names[j] for _, j in pairs]
        self._sets[name] = list(words)
        return [(names[j], share) for _, j, share in self._alike_of(pairs, [words], kept)]

    def drop(self, name):
        """Keep a set no more; tell its words in the order of texts."""
        if name not in self._sets:
            raise NoName("no set is kept by this name")
        return sorted(self._sets.pop(name))

    def weigh(self, word, number):
        """Give a word another weight."""
        check_weights({word: number})
        self._weights[word] = number

    def pairs(self):
        """Tell all pairs of names whose sets are so much alike, with the shares."""
        names = self.names()
        kept = self._kept(names)
        pairs = self._held_of(all_pairs(len(names)), kept, kept)
        return [(names[i], names[j], share) for i, j, share in self._alike_of(pairs, kept, kept)]

    def held(self):
        """Tell the names of the sets that were held against the one that was added last."""
        return list(self._last_held)

    def names(self):
        """Tell the names by which sets are kept, in the order of texts."""
        return sorted(self._sets)

    def order(self):
        """Tell the order of words as it is."""
        return list(self._order)

    def _kept(self, names):
        """Tell the sets that are kept by these names."""
        return [self._sets[name] for name in names]

    def _held_of(self, pairs, one, other):
        """Tell those of the pairs that the beginnings in the keeper's order let by."""
        return let_by("beginnings", self._kind, self._least, pairs, one, other, self._weights, self._order)

    def _alike_of(self, pairs, one, other):
        """Tell those of the pairs that are so much alike, with the shares."""
        return alike_among(self._kind, self._least, pairs, one, other, self._weights)

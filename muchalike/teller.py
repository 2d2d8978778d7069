"""Pairs told one by one, the most alike first."""

from heapq import heappop, heappush

from muchalike.sets import all_pairs, check_lot, share_of_sets, weight
from muchalike.shares import check_kind, may_share, most_bottom, rank


class Teller:
    """Tells the pairs of a lot one by one, and holds none that can't be as much alike."""

    def __init__(self, kind, lot, weights):
        check_kind(kind)
        check_lot(lot, weights)
        self._kind = kind
        self._lot = [list(words) for words in lot]
        self._weights = dict(weights)
        heavy = [weight(words, weights) for words in lot]
        self._most = most_bottom(heavy)
        self._held = []
        self._untold = []
        self._waiting = self._by_what_they_may_share(heavy)

    def _by_what_they_may_share(self, heavy):
        """Tell the pairs of sets with words, those that may share the most last."""
        pairs = [(i, j) for i, j in all_pairs(len(heavy)) if heavy[i] > 0 and heavy[j] > 0]
        return sorted([(rank(may_share(self._kind, heavy[i], heavy[j]), self._most), i, j) for i, j in pairs])

    def _hold_next(self):
        """Hold that pair of the waiting ones that may share the most."""
        _, i, j = self._waiting.pop()
        self._held.append((i, j))
        share = share_of_sets(self._kind, self._lot[i], self._lot[j], self._weights)
        if share[0] > 0:
            heappush(self._untold, (-rank(share, self._most), i, j, share))

    def tell(self):
        """Tell the pair that is the most alike of those that are left, with its share, or None."""
        while self._waiting and (not self._untold or self._waiting[-1][0] >= -self._untold[0][0]):
            self._hold_next()
        if not self._untold:
            return None
        _, i, j, share = heappop(self._untold)
        return (i, j, share)

    def held(self):
        """Tell the pairs that have been held, in order."""
        return sorted(self._held)

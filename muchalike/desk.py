"""A desk that is told rows, keeps a lot and what goes with it, and answers in texts."""

from muchalike.errors import NoNumber
from muchalike.groups import chain, groups
from muchalike.keeper import Keeper
from muchalike.orders import rare_order
from muchalike.papers import shown, shows_all
from muchalike.parts import even_parts
from muchalike.rows import read_row
from muchalike.sets import check_set, check_weights, common, plain_pairs, share_of_sets, weight
from muchalike.shares import check_kind, check_kind_and_least
from muchalike.teller import Teller
from muchalike.texts import lot_text, pair_text, paper_text, set_text, share_text, spaced
from muchalike.ways import found, held, why_not
from muchalike.within import tops, within_pairs

KEEPING = ("kind", "least", "lot", "put", "out", "weigh", "plain")
OF_THE_KEEPER = ("add", "drop", "heavy", "keeper", "kept", "names", "last", "order")
# Rows in which each number is a set's.
OF_NUMBERS = ("out", "set", "share", "why", "chain")


def _listed(texts):
    """Write texts with a semicolon between two, or that there are none."""
    return "; ".join(texts) if texts else "none"


def _listed_rows(rows):
    """Write rows of things, those of each with a blank between two."""
    return _listed([spaced(things) for things in rows])


def _listed_pairs(pairs):
    """Write pairs with their shares."""
    return _listed([pair_text(pair) for pair in pairs])


def _in_a_row(things):
    """Write things with a blank between two, or that there are none."""
    return spaced(things) if things else "none"


class Desk:
    """Keeps a kind, a least share, a lot, weights, a teller and a keeper."""

    def __init__(self):
        self._kind = "both"
        self._least = (1, 2)
        self._lot = []
        self._weights = {}
        self._teller = Teller(self._kind, self._lot, self._weights)
        self._keeper = Keeper(self._kind, self._least, self._weights, [])

    def say(self, row):
        """Answer a row, or refuse it."""
        told = read_row(row)
        self._check_numbers(told[0], told[1:])
        if told[0] in OF_THE_KEEPER:
            return self._ask_the_keeper(told)
        if told[0] not in KEEPING:
            return self._ask(told)
        self._keep(told)
        self._teller = Teller(self._kind, self._lot, self._weights)
        return "ok"

    def _check_numbers(self, first, numbers):
        """Refuse numbers by which no set stands."""
        if first in OF_NUMBERS and max(numbers) >= len(self._lot):
            raise NoNumber("no set stands by this number")
        if first == "why" and numbers[0] == numbers[1]:
            raise NoNumber("a set isn't held against itself")

    def _keep(self, told):
        """Keep what a row hands in."""
        match told:
            case ["kind", kind]:
                check_kind(kind)
                self._kind = kind
            case ["least", least]:
                check_kind_and_least(self._kind, least)
                self._least = least
            case ["lot", lot]:
                self._lot = lot
            case ["put", words]:
                check_set(words)
                self._lot.append(words)
            case ["out", number]:
                del self._lot[number]
            case ["weigh", word, number]:
                check_weights({word: number})
                self._weights[word] = number
            case ["plain"]:
                self._weights = {}

    def _ask(self, told):
        """Answer a row that asks of anything but the keeper."""
        match told:
            case ["sets"]:
                return lot_text(self._lot)
            case ["count"]:
                return f"{len(self._lot)}"
            case ["weights"]:
                return _listed_rows(sorted(self._weights.items()))
            case ["set", number]:
                return self._set_and_weight(number)
            case ["share", i, j]:
                return self._share_and_words(i, j)
            case ["pairs", way, many]:
                return _listed_pairs(self._found_by(way, many))
            case ["held", way, many]:
                return _listed_rows(self._held_by(way, many))
            case ["why", i, j]:
                return self._why(i, j)
            case ["paper", way, many]:
                return self._paper(way, many)
            case ["looks", pairs, paper]:
                return self._judge(pairs, paper)
            case ["next"]:
                return self._next()
            case ["may"]:
                return _listed_rows(self._teller.held())
            case ["groups"]:
                return _listed_rows(groups(self._pairs(), len(self._lot)))
            case ["chain", i, j]:
                return _in_a_row(chain(self._pairs(), len(self._lot), i, j))
            case ["within"]:
                return _listed_rows(within_pairs(self._lot))
            case ["tops"]:
                return _in_a_row(tops(self._lot))

    def _ask_the_keeper(self, told):
        """Answer a row that the keeper is told or asked."""
        match told:
            case ["add", name, words]:
                return self._add(name, words)
            case ["drop", name]:
                return set_text(self._keeper.drop(name))
            case ["heavy", word, number]:
                self._keeper.weigh(word, number)
                return "ok"
            case ["keeper"]:
                self._keeper = Keeper(self._kind, self._least, self._weights, [])
                return "ok"
            case ["kept"]:
                return _listed_pairs(self._keeper.pairs())
            case ["names"]:
                return _in_a_row(self._keeper.names())
            case ["last"]:
                return _in_a_row(self._keeper.held())
            case ["order"]:
                return _in_a_row(self._keeper.order())

    def _add(self, name, words):
        """Write the names and shares that the keeper tells of a set that it is to keep."""
        alike = self._keeper.add(name, words)
        return _listed([f"{other} {share_text(share)}" for other, share in alike])

    def _set_and_weight(self, number):
        """Write a set and what it weighs."""
        words = self._lot[number]
        return f"{set_text(words)} = {weight(words, self._weights)}"

    def _share_and_words(self, i, j):
        """Write the share of two sets and what they have in common."""
        words, _ = common(self._lot[i], self._lot[j], self._weights)
        share = share_of_sets(self._kind, self._lot[i], self._lot[j], self._weights)
        return f"{share_text(share)} : {set_text(words)}"

    def _by(self, way, many):
        """Tell the order or the parts that a way goes by."""
        if way == "parts":
            return even_parts(self._lot, many)
        return rare_order(self._lot) if way in ("beginnings", "places") else None

    def _held_by(self, way, many):
        """Tell the pairs that a way holds."""
        return held(way, self._kind, self._least, self._lot, self._weights, self._by(way, many))

    def _found_by(self, way, many):
        """Tell the pairs that a way finds."""
        return found(way, self._kind, self._least, self._lot, self._weights, self._by(way, many))

    def _pairs(self):
        """Tell the pairs of the lot."""
        return plain_pairs(self._kind, self._least, self._lot, self._weights)

    def _why(self, i, j):
        """Write why two sets are not so much alike, or that they are."""
        one = self._lot[i]
        other = self._lot[j]
        why = why_not(self._kind, self._least, one, other, self._weights, rare_order(self._lot))
        if why is not None:
            return spaced(why)
        return f"alike {share_text(share_of_sets(self._kind, one, other, self._weights))}"

    def _paper(self, way, many):
        """Write the pairs of the lot, and a paper that shows that none is missed."""
        pairs, paper = shown(way, self._kind, self._least, self._lot, self._weights, many)
        return paper_text(pairs, paper)

    def _judge(self, pairs, paper):
        """Write whether a paper is one and shows the pairs."""
        return "yes" if shows_all(self._kind, self._least, self._lot, self._weights, pairs, paper) else "no"

    def _next(self):
        """Write the pair that the teller tells next."""
        pair = self._teller.tell()
        return "none" if pair is None else pair_text(pair)

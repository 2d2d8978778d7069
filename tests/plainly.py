"""What the points promise, reckoned plainly, one by one and with fractions, for the tests to hold against."""

from fractions import Fraction
from itertools import combinations
from random import Random

KINDS = ("both", "mean", "greater", "lesser", "square")
WAYS = ("all", "lengths", "beginnings", "places", "parts")
LEASTS = ((1, 1), (1, 2), (2, 3), (1, 5), (3, 7), (9, 10), (1, 10 ** 20 - 1))


def weigh(words, weights):
    return sum(weights.get(word, 1) for word in words)


def fraction(kind, a, b, c):
    """Tell the share of weights from 1 on as point 5 words it."""
    if kind == "square":
        return Fraction(c * c, a * b)
    below = {"both": a + b - c, "mean": a + b, "greater": max(a, b), "lesser": min(a, b)}
    return Fraction(2 * c if kind == "mean" else c, below[kind])


def share(kind, one, other, weights):
    a, b = weigh(one, weights), weigh(other, weights)
    if a == 0 or b == 0:
        return Fraction(0)
    return fraction(kind, a, b, weigh([word for word in one if word in other], weights))


def pair_of(i, j, told):
    return (i, j, (told.numerator, told.denominator))


def alike(kind, least, lot, weights):
    pairs = []
    for i, j in combinations(range(len(lot)), 2):
        told = share(kind, lot[i], lot[j], weights)
        if told >= Fraction(*least):
            pairs.append(pair_of(i, j, told))
    return pairs


def need(kind, least, a, b):
    """Only for light sets: goes up one by one."""
    c = 0
    while fraction(kind, a, b, c) < Fraction(*least):
        c += 1
    return c


def are_mates(kind, least, a, b):
    return a > 0 and b > 0 and fraction(kind, a, b, min(a, b)) >= Fraction(*least)


def least_need(kind, least, a):
    """Only for light sets: no mate needs less, and the weight itself is a mate."""
    return min(need(kind, least, a, b) for b in range(1, a + 1) if are_mates(kind, least, a, b))


def stand(words, order):
    return [word for word in order if word in words]


def rest(words, weights, order, word):
    return weigh([other for other in words if order.index(other) >= order.index(word)], weights)


def beginning(kind, least, words, weights, order):
    if not words:
        return []
    enough = least_need(kind, least, weigh(words, weights))
    return [word for word in stand(words, order) if rest(words, weights, order, word) >= enough]


def have_common(one, other):
    return any(word in other for word in one)


def agreeing(one, other, parts):
    return [
        at for at, part in enumerate(parts)
        if [word for word in part if word in one] == [word for word in part if word in other]
    ]


def is_held(way, kind, least, one, other, weights, by):
    a, b = weigh(one, weights), weigh(other, weights)
    if way == "all":
        return True
    if not are_mates(kind, least, a, b):
        return False
    if way == "lengths":
        return True
    if way == "parts":
        room = a + b - 2 * need(kind, least, a, b)
        return len(agreeing(one, other, by)) >= max(0, len(by) - room)
    if not have_common(
        beginning(kind, least, one, weights, by), beginning(kind, least, other, weights, by),
    ):
        return False
    if way == "beginnings":
        return True
    first = [word for word in stand(one, by) if word in other][0]
    less = min(rest(one, weights, by, first), rest(other, weights, by, first))
    return less >= need(kind, least, a, b)


def held(way, kind, least, lot, weights, by):
    return [
        (i, j) for i, j in combinations(range(len(lot)), 2)
        if is_held(way, kind, least, lot[i], lot[j], weights, by)
    ]


def some_lots(many, words="abcdefg", sets=7, heaviest=4):
    """Tell tuples (lot, weights, order, parts), other ones each, the same ones in each run."""
    chance = Random(20261119)
    told = []
    for _ in range(many):
        lot = [chance.sample(words, chance.randint(0, len(words))) for _ in range(chance.randint(0, sets))]
        lot += [list(words) for words in chance.sample(lot, min(len(lot), chance.randint(0, 2)))]
        weights = {word: chance.randint(1, heaviest) for word in words if chance.random() < 0.6}
        order = chance.sample(words, len(words)) + ["more"]
        chance.shuffle(order)
        parts = [[] for _ in range(chance.randint(1, 6))]
        for word in order:
            chance.choice(parts).append(word)
        told.append((lot, weights, order, parts))
    return told

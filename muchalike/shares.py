"""Shares of the five kinds, and what two sets need to be so much alike."""

from math import gcd, isqrt

from muchalike.errors import NoKind, NoShare

KINDS = ("both", "mean", "greater", "lesser", "square")


def check_kind(kind):
    """Refuse a kind that is none of the five."""
    if kind not in KINDS:
        raise NoKind("none of the five kinds of share")


def check_kind_and_least(kind, least):
    """Refuse a kind that is none, and behind it a fraction that is no least share."""
    check_kind(kind)
    top, bottom = least
    if not 0 < top <= bottom or gcd(top, bottom) != 1:
        # The numbers stay out of the words: Python writes no number of too many figures.
        raise NoShare("a least share is above 0, at most 1 and in lowest terms")


def _fraction(kind, a, b, c):
    """Tell top and bottom of the fraction of this kind, perhaps not in lowest terms."""
    if kind == "both":
        return (c, a + b - c)
    if kind == "mean":
        return (2 * c, a + b)
    if kind == "greater":
        return (c, max(a, b))
    if kind == "lesser":
        return (c, min(a, b))
    return (c * c, a * b)


def share_of(kind, a, b, c):
    """Tell the share of two sets of weights a and b that have weight c in common."""
    check_kind(kind)
    if a == 0 or b == 0:
        return (0, 1)
    top, bottom = _fraction(kind, a, b, c)
    divisor = gcd(top, bottom)
    return (top // divisor, bottom // divisor)


def reaches(share, least):
    """Tell whether a share is the least one or more."""
    return share[0] * least[1] >= least[0] * share[1]


def _divided_up(top, bottom):
    """Tell the least whole number that is no less than the fraction."""
    return (top + bottom - 1) // bottom


def need(kind, least, a, b):
    """Tell the least common weight with which sets of weights a and b are so much alike."""
    check_kind_and_least(kind, least)
    top, bottom = least
    if kind == "both":
        # c / (a + b - c) >= top / bottom, with all that holds c brought to one side.
        return _divided_up(top * (a + b), top + bottom)
    if kind == "mean":
        return _divided_up(top * (a + b), 2 * bottom)
    if kind == "greater":
        return _divided_up(top * max(a, b), bottom)
    if kind == "lesser":
        return _divided_up(top * min(a, b), bottom)
    # c is the least root whose square is no less: one more than the root of the number below.
    return isqrt(_divided_up(top * a * b, bottom) - 1) + 1


def mates(kind, least, a):
    """Tell the least and the greatest mate of a weight; None where there is no greatest one."""
    check_kind_and_least(kind, least)
    if kind == "lesser":
        # What is needed of the lesser weight is never more than that weight.
        return (1, None)
    top, bottom = least
    if kind == "mean":
        # lesser * 2 / (lesser + greater) >= top / bottom, turned into lesser / greater.
        bottom = 2 * bottom - top
    # By each kind that is left, weights are mates where lesser / greater >= top / bottom.
    return (_divided_up(a * top, bottom), a * bottom // top)


def least_need(kind, least, a):
    """Tell what a weight and its least mate need: no mate needs less."""
    low, _ = mates(kind, least, a)
    return need(kind, least, a, low)


def are_mates(kind, least, a, b):
    """Tell whether two weights, perhaps 0, are mates of one another."""
    return a > 0 and b > 0 and need(kind, least, a, b) <= min(a, b)


def may_share(kind, a, b):
    """Tell what two sets may share by their weights: their share if they had the lesser in common."""
    return share_of(kind, a, b, min(a, b))


def most_bottom(heavy):
    """Tell a number that the bottom of no share of two sets of these weights exceeds."""
    # A bottom is at most the product of both weights, or what they weigh together.
    return sum(heavy) ** 2


def rank(share, most):
    """Tell a whole number, greater for a greater share, of shares with bottoms of at most so much."""
    # Two unlike ones of these shares are at least 1 over most * most apart.
    return share[0] * most * most // share[1]

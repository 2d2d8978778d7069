"""Shares, needs and mates: points 5 to 7, by reckoning them anew, one by one."""

import unittest
from fractions import Fraction
from math import gcd

from muchalike.errors import NoKind, NoShare
from muchalike.shares import least_need, mates, need, rank, share_of
from plainly import KINDS, fraction
from plainly import need as need_one_by_one

NO_KINDS = ("", "Both", "both ", " mean", "sum", "none", "least", "square\n", "b")
LEASTS = tuple(
    (top, bottom)
    for bottom in range(1, 8) for top in range(1, bottom + 1) if gcd(top, bottom) == 1
)
NO_LEASTS = (
    (0, 1), (0, 5), (0, 0), (1, 0), (2, 4), (2, 2), (3, 2), (6, 9), (2, 1),
    (-1, 2), (1, -2), (-1, -2), (-2, -1), (-1, -1), (-2, -3), (0, -1), (-1, 0),
    (2 * 10 ** 19, 4 * 10 ** 19), (10 ** 20 + 1, 10 ** 20),
    # Refusals are promised beyond the bounds, too.
    (2 * 10 ** 6000, 4 * 10 ** 6000), (10 ** 6000 + 1, 10 ** 6000),
)
GREATEST = 10 ** 18
GREAT_LEASTS = (
    (1, 1), (1, 2), (2, 3),
    (1, 10 ** 20 - 1), (10 ** 20 - 2, 10 ** 20 - 1), (10 ** 19, 10 ** 20 - 1),
    (98765432109876543211, 98765432109876543212), (3, 10 ** 19),
)
GREAT_WEIGHTS = (1, 2, 999999, 10 ** 9 + 7, GREATEST - 1, GREATEST)


def is_mate(kind, least, a, b):
    return need_one_by_one(kind, least, a, b) <= min(a, b)


class Shares(unittest.TestCase):

    def assert_whole(self, number):
        self.assertIs(int, type(number))

    def test_one_share_of_each_kind(self):
        told = [share_of(kind, 4, 6, 3) for kind in KINDS]
        self.assertEqual([(3, 7), (3, 5), (1, 2), (3, 4), (3, 8)], told)

    def test_the_turn_of_the_weights_is_nothing(self):
        told = [share_of(kind, 6, 4, 3) for kind in KINDS]
        self.assertEqual([(3, 7), (3, 5), (1, 2), (3, 4), (3, 8)], told)

    def test_all_small_shares(self):
        for kind in KINDS:
            for a in range(1, 9):
                for b in range(1, 9):
                    for c in range(min(a, b) + 1):
                        share = fraction(kind, a, b, c)
                        expected = (share.numerator, share.denominator)
                        self.assertEqual(expected, share_of(kind, a, b, c), (kind, a, b, c))

    def test_a_weight_of_0_shares_nothing(self):
        for kind in KINDS:
            for a, b in ((0, 0), (0, 1), (5, 0), (0, GREATEST), (GREATEST, 0)):
                self.assertEqual((0, 1), share_of(kind, a, b, 0), (kind, a, b))

    def test_nothing_in_common_is_share_0_in_lowest_terms(self):
        for kind in KINDS:
            self.assertEqual((0, 1), share_of(kind, 4, 6, 0), kind)

    def test_all_in_common_is_share_1(self):
        for kind in KINDS:
            for a in (1, 7, GREATEST):
                self.assertEqual((1, 1), share_of(kind, a, a, a), (kind, a))

    def test_great_weights_share_exactly(self):
        for kind in KINDS:
            for a, b, c in (
                (GREATEST, GREATEST - 1, GREATEST - 2),
                (GREATEST, 3, 2),
                (10 ** 17 + 3, GREATEST, 10 ** 16 + 1),
            ):
                share = fraction(kind, a, b, c)
                expected = (share.numerator, share.denominator)
                self.assertEqual(expected, share_of(kind, a, b, c), (kind, a, b, c))

    def test_a_share_is_a_tuple_of_two_whole_numbers(self):
        for kind in KINDS:
            for weights in ((4, 6, 3), (1, 1, 1), (0, 1, 0), (3, 3, 0)):
                share = share_of(kind, *weights)
                self.assertIs(tuple, type(share))
                self.assertEqual(2, len(share))
                for number in share:
                    self.assert_whole(number)

    def test_another_kind_is_refused(self):
        for kind in NO_KINDS:
            for weights in ((4, 6, 3), (0, 0, 0), (0, 3, 0)):
                with self.subTest(kind=kind), self.assertRaises(NoKind):
                    share_of(kind, *weights)


class Needs(unittest.TestCase):

    def test_one_need_of_each_kind(self):
        told = [need(kind, (2, 3), 4, 9) for kind in KINDS]
        self.assertEqual([6, 5, 6, 3, 5], told)

    def test_all_small_needs(self):
        for kind in KINDS:
            for least in LEASTS:
                for a in range(1, 13):
                    for b in range(1, 13):
                        expected = need_one_by_one(kind, least, a, b)
                        self.assertEqual(expected, need(kind, least, a, b), (kind, least, a, b))

    def test_it_may_be_more_than_the_lighter_one_has(self):
        told = [need(kind, (1, 1), 1, 5) for kind in KINDS]
        self.assertEqual([3, 3, 5, 1, 3], told)

    def test_share_1_of_like_weights_needs_all(self):
        for kind in KINDS:
            for a in GREAT_WEIGHTS:
                self.assertEqual(a, need(kind, (1, 1), a, a), (kind, a))

    def test_great_needs_are_just_enough(self):
        for kind in KINDS:
            for least in GREAT_LEASTS:
                for a in GREAT_WEIGHTS:
                    for b in GREAT_WEIGHTS:
                        c = need(kind, least, a, b)
                        self.assertIs(int, type(c))
                        self.assertGreaterEqual(fraction(kind, a, b, c), Fraction(*least))
                        self.assertGreaterEqual(c, 1)
                        self.assertLess(fraction(kind, a, b, c - 1), Fraction(*least))

    def test_a_square_root_is_exact_where_floats_are_not(self):
        self.assertEqual(GREATEST, need("square", (1, 1), GREATEST, GREATEST))
        self.assertEqual(GREATEST, need("square", (1, 1), GREATEST - 1, GREATEST))
        self.assertEqual(GREATEST - 1, need("square", (1, 1), GREATEST - 1, GREATEST - 1))


class Mates(unittest.TestCase):

    def test_the_mates_of_one_weight_by_each_kind(self):
        told = [mates(kind, (2, 3), 7) for kind in KINDS]
        self.assertEqual([(5, 10), (4, 14), (5, 10), (1, None), (5, 10)], told)

    def test_all_small_mates(self):
        for kind in KINDS:
            for least in LEASTS:
                for a in range(1, 9):
                    low, high = mates(kind, least, a)
                    # The greatest mate of 8 by "mean" and (1, 7) is 104.
                    for b in range(1, 110):
                        within = low <= b and (high is None or b <= high)
                        self.assertEqual(is_mate(kind, least, a, b), within, (kind, least, a, b))

    def test_only_by_lesser_there_is_no_greatest_mate(self):
        for kind in KINDS:
            for least in LEASTS + GREAT_LEASTS:
                for a in (1, 5, GREATEST):
                    low, high = mates(kind, least, a)
                    self.assertEqual(kind == "lesser", high is None, (kind, least, a))

    def test_each_weight_is_a_mate_of_each_by_lesser(self):
        for least in LEASTS + GREAT_LEASTS:
            for a in GREAT_WEIGHTS:
                self.assertEqual((1, None), mates("lesser", least, a))

    def test_by_share_1_only_like_weights_are_mates(self):
        for kind in ("both", "mean", "greater", "square"):
            for a in GREAT_WEIGHTS:
                self.assertEqual((a, a), mates(kind, (1, 1), a), (kind, a))

    def test_great_mates_end_where_they_are_told_to(self):
        for kind in ("both", "mean", "greater", "square"):
            for least in GREAT_LEASTS:
                for a in GREAT_WEIGHTS:
                    low, high = mates(kind, least, a)
                    self.assertTrue(1 <= low <= a <= high, (kind, least, a))
                    self.assertLessEqual(need(kind, least, a, low), low)
                    self.assertLessEqual(need(kind, least, a, high), a)
                    self.assertGreater(need(kind, least, a, high + 1), a)
                    if low > 1:
                        self.assertGreater(need(kind, least, a, low - 1), low - 1)

    def test_they_are_told_as_a_tuple_of_whole_numbers(self):
        for kind in KINDS:
            told = mates(kind, (1, 1), 1)
            self.assertIs(tuple, type(told))
            for number in told:
                self.assertTrue(number is None or type(number) is int)


class LeastNeeds(unittest.TestCase):

    def test_the_least_need_of_one_weight_by_each_kind(self):
        told = [least_need(kind, (2, 3), 7) for kind in KINDS]
        self.assertEqual([5, 4, 5, 1, 5], told)

    def test_it_is_what_the_least_mate_needs_and_no_mate_needs_less(self):
        for kind in KINDS:
            for least in LEASTS:
                for a in range(1, 9):
                    needs = [
                        need_one_by_one(kind, least, a, b)
                        for b in range(1, 110) if is_mate(kind, least, a, b)
                    ]
                    told = least_need(kind, least, a)
                    self.assertEqual(needs[0], told, (kind, least, a))
                    self.assertEqual(min(needs), told, (kind, least, a))

    def test_great_least_needs(self):
        for kind in KINDS:
            for least in GREAT_LEASTS:
                for a in GREAT_WEIGHTS:
                    low = mates(kind, least, a)[0]
                    told = least_need(kind, least, a)
                    self.assertIs(int, type(told))
                    self.assertEqual(need(kind, least, a, low), told, (kind, least, a))


class Refusals(unittest.TestCase):

    ASKED = (
        ("need", lambda kind, least: need(kind, least, 4, 6)),
        ("mates", lambda kind, least: mates(kind, least, 4)),
        ("least_need", lambda kind, least: least_need(kind, least, 4)),
    )

    def test_what_is_no_least_share_is_refused(self):
        for name, asked in self.ASKED:
            for kind in KINDS:
                for index, least in enumerate(NO_LEASTS):
                    with self.subTest(name, kind=kind, index=index), self.assertRaises(NoShare):
                        asked(kind, least)

    def test_another_kind_is_refused(self):
        for name, asked in self.ASKED:
            for kind in NO_KINDS:
                with self.subTest(name, kind=kind), self.assertRaises(NoKind):
                    asked(kind, (1, 2))

    def test_no_kind_goes_ahead_of_no_share(self):
        for name, asked in self.ASKED:
            for index, least in enumerate(NO_LEASTS):
                with self.subTest(name, index=index), self.assertRaises(NoKind):
                    asked("no", least)

    def test_least_shares_are_taken(self):
        for name, asked in self.ASKED:
            for kind in KINDS:
                for least in LEASTS + GREAT_LEASTS:
                    with self.subTest(name, kind=kind, least=least):
                        self.assertIsNotNone(asked(kind, least))


class Ranks(unittest.TestCase):

    def test_ranks_stand_to_one_another_as_the_shares_do(self):
        for one in LEASTS:
            for other in LEASTS:
                expected = Fraction(*one) < Fraction(*other)
                self.assertEqual(expected, rank(one, 7) < rank(other, 7), (one, other))

    def test_great_shares_next_to_one_another(self):
        most = 10 ** 20
        self.assertLess(rank((most - 2, most - 1), most), rank((most - 1, most), most))
        self.assertLess(rank((1, most), most), rank((1, most - 1), most))


if __name__ == "__main__":
    unittest.main()

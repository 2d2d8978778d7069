"""Groups, chains and closed lists: points 2, 4 and 23."""

import unittest
from itertools import combinations, permutations, product
from random import Random

from muchalike.groups import chain, groups, is_chain, is_closed
from muchalike.sets import plain_pairs


def apart(pairs, many):
    """Tell for all two numbers how many steps lead from one to the other, by all ways between them."""
    far = {(i, j): 0 if i == j else None for i in range(many) for j in range(many)}
    for pair in pairs:
        far[pair[0], pair[1]] = far[pair[1], pair[0]] = 1
    for by in range(many):
        for i in range(many):
            for j in range(many):
                if far[i, by] is not None and far[by, j] is not None:
                    steps = far[i, by] + far[by, j]
                    if far[i, j] is None or steps < far[i, j]:
                        far[i, j] = steps
    return far


def groups_of(far, many):
    told = []
    for i in range(many):
        group = [j for j in range(many) if far[i, j] is not None]
        if group not in told:
            told.append(group)
    return told


def leads(pairs, some, i, j):
    """Tell whether a list is a chain from i to j, by the words of point 23."""
    steps = [{pair[0], pair[1]} for pair in pairs]
    return some[0] == i and some[-1] == j and all({one, other} in steps for one, other in zip(some, some[1:]))


def small_graphs():
    edges = list(combinations(range(5), 2))
    for size in range(5):
        yield from (list(pairs) for pairs in combinations(edges, size))


def some_graphs():
    chance = Random(23)
    for _ in range(60):
        many = chance.randint(2, 14)
        pairs = [tuple(chance.sample(range(many), 2)) for _ in range(chance.randint(0, many + 3))]
        # Pairs in either turn, more than once, and with things behind the two numbers.
        for pair in list(pairs):
            pairs.insert(chance.randint(0, len(pairs)), chance.choice([pair, pair[::-1], pair + ((1, 2),)]))
        yield many, pairs


class Groups(unittest.TestCase):

    def test_some(self):
        self.assertEqual([[0, 2, 4], [1, 3], [5]], groups([(4, 2), (1, 3), (0, 4)], 6))
        self.assertEqual([[0, 1, 2, 3, 4]], groups([(4, 3), (3, 2), (2, 1), (1, 0)], 5))

    def test_without_pairs_each_number_is_a_group(self):
        self.assertEqual([], groups([], 0))
        self.assertEqual([[0]], groups([], 1))
        self.assertEqual([[0], [1], [2]], groups([], 3))

    def test_pairs_in_any_turn_and_more_than_once(self):
        for pairs in permutations([(0, 3), (3, 0), (3, 1), (1, 3)]):
            self.assertEqual([[0, 1, 3], [2]], groups(list(pairs), 4))

    def test_only_the_first_two_things_are_looked_at(self):
        pairs = [(0, 3, (1, 2)), (1, 4, 2), (2, 4, "x", None)]
        self.assertEqual([[0, 3], [1, 2, 4]], groups(pairs, 5))

    def test_small_ones_and_some(self):
        for many, pairs in [(5, pairs) for pairs in small_graphs()] + list(some_graphs()):
            self.assertEqual(groups_of(apart(pairs, many), many), groups(pairs, many))

    def test_200_numbers_and_2000_pairs(self):
        self.assertEqual([list(range(200))], groups([(at + 1, at) for at in range(199)], 200))
        pairs = [(at, 198 - at) for at in range(99)] * 20
        expected = [[at, 198 - at] for at in range(99)] + [[99], [199]]
        self.assertEqual(expected, groups(pairs, 200))
        pairs = [(i, j) for i in range(63) for j in range(i)]
        expected = [list(range(63))] + [[at] for at in range(63, 200)]
        self.assertEqual(expected, groups(pairs, 200))

    def test_of_a_lot_by_its_pairs(self):
        lot = [["a", "b"], ["x"], ["b", "c"], ["c", "d"], ["x", "y"]]
        self.assertEqual([[0, 2, 3], [1, 4]], groups(plain_pairs("both", (1, 3), lot, {}), 5))


class Chain(unittest.TestCase):

    def test_some(self):
        pairs = [(0, 1), (1, 2), (2, 3), (3, 4), (0, 5), (5, 3)]
        self.assertEqual([0, 5, 3], chain(pairs, 7, 0, 3))
        self.assertEqual([4, 3, 5, 0], chain(pairs, 7, 4, 0))
        self.assertEqual([2, 1], chain(pairs, 7, 2, 1))
        self.assertIsNone(chain(pairs, 7, 0, 6))
        self.assertIsNone(chain(pairs, 7, 6, 0))

    def test_of_one_number(self):
        for many in (1, 2, 5):
            for at in range(many):
                self.assertEqual([at], chain([], many, at, at))
                self.assertEqual([at], chain([(0, 1), (1, 0)][:2 * (many > 1)], many, at, at))

    def test_without_pairs_there_is_none(self):
        for i, j in permutations(range(3), 2):
            self.assertIsNone(chain([], 3, i, j))

    def test_as_few_numbers_as_any(self):
        for many, pairs in [(5, pairs) for pairs in small_graphs()] + list(some_graphs()):
            far = apart(pairs, many)
            for i, j in product(range(many), repeat=2):
                told = chain(pairs, many, i, j)
                if far[i, j] is None:
                    self.assertIsNone(told)
                else:
                    self.assertEqual(far[i, j] + 1, len(told))
                    self.assertTrue(leads(pairs, told, i, j))
                    self.assertIs(True, is_chain(pairs, told))

    def test_200_numbers_and_2000_pairs(self):
        line = [(at + 1, at, "x") for at in range(199)] * 10
        self.assertEqual(list(range(200)), chain(line, 200, 0, 199))
        self.assertEqual(list(range(199, -1, -1)), chain(line, 200, 199, 0))
        self.assertEqual([0, 199], chain(line + [(199, 0)], 200, 0, 199))
        self.assertIsNone(chain([(i, j) for i in range(63) for j in range(i)], 200, 0, 63))

    def test_asked_again_it_tells_the_same_chain(self):
        for many, pairs in some_graphs():
            for i, j in product(range(many), repeat=2):
                self.assertEqual(chain(pairs, many, i, j), chain(list(pairs), many, i, j))


class IsChain(unittest.TestCase):

    PAIRS = [(0, 1), (2, 1), (3, 4, (1, 2))]

    def test_the_list_of_none_is_none(self):
        self.assertIs(False, is_chain([], []))
        self.assertIs(False, is_chain(self.PAIRS, []))

    def test_one_number_is_one_whatever_it_is(self):
        for number in (0, 1, 7, -1, -10 ** 30, 10 ** 30):
            self.assertIs(True, is_chain([], [number]))
            self.assertIs(True, is_chain(self.PAIRS, [number]))

    def test_each_next_two_are_a_pair_in_either_turn(self):
        for some in ([0, 1], [1, 0], [0, 1, 2], [2, 1, 0], [1, 2], [4, 3], [0, 1, 0, 1, 2, 1]):
            self.assertIs(True, is_chain(self.PAIRS, some), some)
        for some in ([0, 2], [0, 1, 2, 0], [0, 3], [3, 4, 2], [2, 3, 4], [0, 0], [1, 1], [0, 1, 1], [9, 8], [-1, 0]):
            self.assertIs(False, is_chain(self.PAIRS, some), some)

    def test_all_short_lists(self):
        for size in range(1, 5):
            for some in product(range(-1, 6), repeat=size):
                expected = leads(self.PAIRS, some, some[0], some[-1])
                self.assertIs(expected, is_chain(self.PAIRS, list(some)), some)

    def test_long_ones(self):
        line = [(at + 1, at) for at in range(199)] * 10
        self.assertIs(True, is_chain(line, list(range(200))))
        self.assertIs(True, is_chain(line, list(range(200)) + list(range(198, -1, -1))))
        self.assertIs(False, is_chain(line, list(range(201))))


class IsClosed(unittest.TestCase):

    PAIRS = [(0, 1), (2, 1), (3, 4, (1, 2))]

    def test_each_pair_has_both_its_numbers_in_it_or_none(self):
        for some in ([], [0, 1, 2], [2, 0, 1], [3, 4], [4, 3], [0, 1, 2, 3, 4], [5], [-1, 10 ** 30], [7, 3, 4]):
            self.assertIs(True, is_closed(self.PAIRS, some), some)
        for some in ([0], [1], [2], [3], [4], [0, 1], [1, 2], [0, 2], [3, 4, 0], [5, 3]):
            self.assertIs(False, is_closed(self.PAIRS, some), some)

    def test_without_pairs_each_list_is(self):
        for some in ([], [0], [3, -1]):
            self.assertIs(True, is_closed([], some))

    def test_groups_and_these_together_are_closed_and_no_others(self):
        for many, pairs in [(5, pairs) for pairs in small_graphs()]:
            whole = groups(pairs, many)
            for size in range(many + 1):
                for some in combinations(range(many), size):
                    expected = all(len(set(group) & set(some)) in (0, len(group)) for group in whole)
                    self.assertIs(expected, is_closed(pairs, list(some)[::-1]))

    def test_no_chain_leads_out_of_a_closed_list(self):
        for many, pairs in some_graphs():
            far = apart(pairs, many)
            for group in groups(pairs, many):
                self.assertIs(True, is_closed(pairs, group))
                for i in group:
                    for j in range(many):
                        self.assertEqual(j in group, chain(pairs, many, i, j) is not None)
                        self.assertEqual(j in group, far[i, j] is not None)


class HandedIn(unittest.TestCase):

    def test_nothing_is_changed(self):
        pairs, some = [(4, 2, (1, 2)), (1, 3), (3, 1), (0, 4)], [4, 2]
        kept = (list(pairs), list(some))
        groups(pairs, 6)
        chain(pairs, 6, 0, 2)
        is_chain(pairs, some)
        is_closed(pairs, some)
        self.assertEqual(kept, (pairs, some))

    def test_lists_that_are_told_are_the_askers_own(self):
        pairs = [(4, 2), (1, 3), (0, 4)]
        told, again = groups(pairs, 6), groups(pairs, 6)
        self.assertEqual(len(told), len({id(group) for group in told}))
        for group in told:
            group.clear()
        self.assertEqual(again, groups(pairs, 6))
        for i, j in ((0, 2), (0, 0)):
            told, again = chain(pairs, 6, i, j), chain(pairs, 6, i, j)
            told.append(9)
            self.assertEqual(again, chain(pairs, 6, i, j))


if __name__ == "__main__":
    unittest.main()

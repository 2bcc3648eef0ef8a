"""Pairs of what is left: [11] and the interface of ballastbook/fronts.py."""

import itertools
import random
import unittest

from ballastbook.fronts import beats, front, joined, least
from tests.plain import plain_beats, plain_front, plain_least

ALL_PAIRS = list(itertools.product(range(7), repeat=2))


def some_pairs(chance, most=9):
    return [(chance.randint(0, 6), chance.randint(0, 6)) for pair in range(chance.randint(0, most))]


class Beats(unittest.TestCase):
    def test_more_of_one(self):
        self.assertIs(beats((3, 2), (2, 2)), True)
        self.assertIs(beats((2, 3), (2, 2)), True)
        self.assertIs(beats((2, 2), (3, 2)), False)
        self.assertIs(beats((2, 2), (2, 3)), False)

    def test_more_of_both(self):
        self.assertIs(beats((3, 3), (2, 2)), True)
        self.assertIs(beats((2, 2), (3, 3)), False)
        self.assertIs(beats((6, 6), (0, 0)), True)

    def test_the_same_pair(self):
        for pair in ALL_PAIRS:
            self.assertIs(beats(pair, pair), False)

    def test_more_of_one_and_less_of_the_other(self):
        self.assertIs(beats((6, 0), (0, 1)), False)
        self.assertIs(beats((0, 1), (6, 0)), False)
        self.assertIs(beats((3, 2), (2, 3)), False)

    def test_every_two(self):
        for one, other in itertools.product(ALL_PAIRS, repeat=2):
            self.assertIs(beats(one, other), plain_beats(one, other), (one, other))


class FrontAndLeast(unittest.TestCase):
    def test_an_empty_list(self):
        self.assertEqual(front([]), [])
        self.assertEqual(least([]), [])

    def test_one_pair(self):
        for pair in ((0, 0), (3, 4), (6, 6)):
            self.assertEqual(front([pair]), [pair])
            self.assertEqual(least([pair]), [pair])

    def test_pairs_told_twice(self):
        self.assertEqual(front([(1, 2), (2, 1), (1, 2), (2, 1)]), [(1, 2), (2, 1)])
        self.assertEqual(least([(1, 2), (2, 1), (1, 2), (2, 1)]), [(1, 2), (2, 1)])

    def test_rising_sacks(self):
        pairs = [(3, 3), (0, 6), (6, 0), (5, 1), (1, 5)]
        for order in itertools.permutations(pairs):
            self.assertEqual(front(list(order)), [(0, 6), (1, 5), (3, 3), (5, 1), (6, 0)])
            self.assertEqual(least(list(order)), [(0, 6), (1, 5), (3, 3), (5, 1), (6, 0)])

    def test_one_beats_all(self):
        self.assertEqual(front([(2, 2), (1, 1), (2, 1), (1, 2)]), [(2, 2)])
        self.assertEqual(least([(2, 2), (1, 1), (2, 1), (1, 2)]), [(1, 1)])

    def test_alike_in_one_part(self):
        self.assertEqual(front([(2, 1), (2, 4), (2, 3)]), [(2, 4)])
        self.assertEqual(least([(2, 3), (2, 1), (2, 4)]), [(2, 1)])
        self.assertEqual(front([(1, 3), (4, 3), (2, 3)]), [(4, 3)])
        self.assertEqual(least([(4, 3), (1, 3), (2, 3)]), [(1, 3)])

    def test_all_pairs(self):
        self.assertEqual(front(ALL_PAIRS), [(6, 6)])
        self.assertEqual(least(ALL_PAIRS), [(0, 0)])

    def test_against_looking_at_every_two(self):
        chance = random.Random(110)
        for turn in range(1000):
            pairs = some_pairs(chance, chance.choice((4, 9, 30)))
            self.assertEqual(front(pairs), plain_front(pairs), pairs)
            self.assertEqual(least(pairs), plain_least(pairs), pairs)

    def test_told_lists_that_are_changed(self):
        pairs = [(1, 2), (2, 1)]
        for asked in (front, least):
            told = asked(pairs)
            self.assertIsNot(told, pairs)
            told.clear()
            self.assertEqual(asked(pairs), [(1, 2), (2, 1)])

    def test_the_list_stays_as_it_was(self):
        pairs = [(2, 1), (0, 0), (1, 2), (2, 1)]
        front(pairs)
        least(pairs)
        self.assertEqual(pairs, [(2, 1), (0, 0), (1, 2), (2, 1)])


class Joined(unittest.TestCase):
    def test_either_list_empty(self):
        self.assertEqual(joined([], []), [])
        self.assertEqual(joined([(2, 1), (1, 2), (1, 1)], []), [(1, 2), (2, 1)])
        self.assertEqual(joined([], [(2, 1), (1, 2), (1, 1)]), [(1, 2), (2, 1)])

    def test_one_list_beats_the_other(self):
        self.assertEqual(joined([(1, 2), (2, 1)], [(2, 2)]), [(2, 2)])
        self.assertEqual(joined([(1, 2), (2, 1)], [(1, 3), (0, 1)]), [(1, 3), (2, 1)])

    def test_the_same_pair_in_both(self):
        self.assertEqual(joined([(1, 2)], [(1, 2)]), [(1, 2)])

    def test_both_ways_round_against_looking_at_every_two(self):
        chance = random.Random(111)
        for turn in range(500):
            one, other = some_pairs(chance), some_pairs(chance)
            self.assertEqual(joined(one, other), plain_front(one + other), (one, other))
            self.assertEqual(joined(other, one), joined(one, other), (one, other))

    def test_the_lists_stay_as_they_were(self):
        one, other = [(2, 1), (0, 0)], [(1, 2), (1, 2)]
        told = joined(one, other)
        told.append("x")
        self.assertEqual((one, other), ([(2, 1), (0, 0)], [(1, 2), (1, 2)]))
        self.assertEqual(joined(one, other), [(1, 2), (2, 1)])

    def test_a_told_list_beside_an_empty_one_is_new(self):
        one = [(1, 2), (2, 1)]
        for told in (joined(one, []), joined([], one)):
            told.clear()
        self.assertEqual(one, [(1, 2), (2, 1)])


if __name__ == "__main__":
    unittest.main()

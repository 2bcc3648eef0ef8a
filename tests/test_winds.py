"""Winds: [4], [6] and the interface of ballastbook/winds.py."""

import itertools
import random
import unittest

from ballastbook.winds import spells, wind_at


def plain_wind(winds, hour, height):
    """The wind by the words of [4], written another way."""
    of_height = [(wind[0], at) for at, wind in enumerate(winds)
                 if wind[1] == height and not wind[0] > hour]
    if not of_height:
        return (0, 0)
    return winds[max(of_height)[1]][2:]


def some_winds(chance):
    return [(chance.choice((0, 0, 1, 5, 11, 12, 22, 23)), chance.randint(0, 2),
             chance.randint(-2, 2), chance.choice((0, 0, 1)))
            for number in range(chance.randint(0, 9))]


class WindAt(unittest.TestCase):
    def test_no_wind(self):
        for hour, height in itertools.product((0, 11, 23), range(6)):
            self.assertEqual(wind_at([], hour, height), (0, 0))

    def test_no_wind_of_that_height(self):
        winds = [(0, 1, 2, 1), (3, 3, -1, -2)]
        for height in (0, 2, 4, 5):
            self.assertEqual(wind_at(winds, 10, height), (0, 0))

    def test_around_a_first_hour(self):
        winds = [(7, 2, -2, 1)]
        self.assertEqual(wind_at(winds, 6, 2), (0, 0))
        self.assertEqual(wind_at(winds, 7, 2), (-2, 1))
        self.assertEqual(wind_at(winds, 8, 2), (-2, 1))
        self.assertEqual(wind_at(winds, 23, 2), (-2, 1))

    def test_around_the_first_hour_of_a_second_wind(self):
        winds = [(2, 4, 1, 0), (9, 4, 0, 2)]
        self.assertEqual([wind_at(winds, hour, 4) for hour in (1, 2, 8, 9, 10)],
                         [(0, 0), (1, 0), (1, 0), (0, 2), (0, 2)])

    def test_of_one_first_hour_the_last_in_the_list_blows(self):
        winds = [(5, 1, 1, 1), (5, 1, 2, 2), (5, 1, -1, 0)]
        for order in itertools.permutations(winds):
            self.assertEqual(wind_at(list(order), 5, 1), order[-1][2:])
            self.assertEqual(wind_at(list(order), 20, 1), order[-1][2:])
            self.assertEqual(wind_at(list(order), 4, 1), (0, 0))

    def test_a_later_first_hour_that_stands_ahead_in_the_list(self):
        winds = [(9, 0, 2, -2), (3, 0, -1, 1)]
        self.assertEqual(wind_at(winds, 2, 0), (0, 0))
        self.assertEqual(wind_at(winds, 8, 0), (-1, 1))
        self.assertEqual(wind_at(winds, 9, 0), (2, -2))
        self.assertEqual(wind_at(winds, 10, 0), (2, -2))

    def test_winds_of_other_heights(self):
        winds = [(0, 2, 1, 1), (4, 3, 2, 2), (0, 3, -1, -1), (6, 2, 0, 1), (6, 1, -2, -2)]
        self.assertEqual(wind_at(winds, 5, 2), (1, 1))
        self.assertEqual(wind_at(winds, 5, 3), (2, 2))
        self.assertEqual(wind_at(winds, 6, 2), (0, 1))
        self.assertEqual(wind_at(winds, 6, 1), (-2, -2))
        self.assertEqual(wind_at(winds, 6, 0), (0, 0))

    def test_the_first_and_the_last_hour(self):
        winds = [(0, 5, 1, 2), (23, 5, -2, -1)]
        self.assertEqual(wind_at(winds, 0, 5), (1, 2))
        self.assertEqual(wind_at(winds, 22, 5), (1, 2))
        self.assertEqual(wind_at(winds, 23, 5), (-2, -1))

    def test_a_calm_that_outdoes_a_wind(self):
        self.assertEqual(wind_at([(1, 0, 2, 2), (4, 0, 0, 0)], 4, 0), (0, 0))

    def test_it_is_a_pair(self):
        self.assertIsInstance(wind_at([(0, 0, 1, 1)], 3, 0), tuple)
        self.assertIsInstance(wind_at([], 3, 0), tuple)

    def test_by_the_words_of_the_document(self):
        chance = random.Random(4)
        for turn in range(200):
            winds = some_winds(chance)
            for hour, height in itertools.product(range(24), range(3)):
                self.assertEqual(wind_at(winds, hour, height),
                                 plain_wind(winds, hour, height), (winds, hour, height))

    def test_the_list_stays_as_it_was(self):
        winds = [(9, 0, 2, -2), (3, 0, -1, 1), (3, 0, 1, 1)]
        before = list(winds)
        wind_at(winds, 12, 0)
        self.assertEqual(winds, before)

    def test_a_list_changed_behind_a_call(self):
        winds = [(0, 0, 1, 1)]
        self.assertEqual(wind_at(winds, 3, 0), (1, 1))
        winds.append((2, 0, -1, -1))
        self.assertEqual(wind_at(winds, 3, 0), (-1, -1))
        self.assertEqual(wind_at([(0, 0, 1, 1)], 3, 0), (1, 1))


class Spells(unittest.TestCase):
    def test_no_wind(self):
        self.assertEqual(spells([], 0), [(0, 23, 0, 0)])
        self.assertEqual(spells([(4, 1, 2, 2)], 0), [(0, 23, 0, 0)])

    def test_a_wind_from_hour_0(self):
        self.assertEqual(spells([(0, 3, 1, -1)], 3), [(0, 23, 1, -1)])

    def test_a_wind_from_hour_23(self):
        self.assertEqual(spells([(23, 3, 1, -1)], 3), [(0, 22, 0, 0), (23, 23, 1, -1)])

    def test_a_wind_from_hour_1(self):
        self.assertEqual(spells([(1, 3, 1, -1)], 3), [(0, 0, 0, 0), (1, 23, 1, -1)])

    def test_several_winds_in_any_order(self):
        winds = [(12, 0, 0, 1), (4, 0, 1, 0), (18, 0, 0, -2)]
        for order in itertools.permutations(winds):
            self.assertEqual(spells(list(order), 0), [
                (0, 3, 0, 0), (4, 11, 1, 0), (12, 17, 0, 1), (18, 23, 0, -2)])

    def test_two_alike_one_behind_the_other_are_one_spell(self):
        self.assertEqual(spells([(2, 1, 1, 1), (9, 1, 1, 1)], 1), [(0, 1, 0, 0), (2, 23, 1, 1)])
        self.assertEqual(spells([(0, 1, 1, 1), (9, 1, 1, 1)], 1), [(0, 23, 1, 1)])

    def test_two_alike_with_another_between_are_two_spells(self):
        self.assertEqual(spells([(0, 1, 1, 1), (9, 1, 1, 0), (10, 1, 1, 1)], 1),
                         [(0, 8, 1, 1), (9, 9, 1, 0), (10, 23, 1, 1)])

    def test_a_told_calm_joins_the_calm_ahead(self):
        self.assertEqual(spells([(6, 2, 0, 0)], 2), [(0, 23, 0, 0)])

    def test_a_wind_that_is_outdone_at_its_own_first_hour(self):
        self.assertEqual(spells([(5, 0, 2, 2), (5, 0, -1, 0)], 0), [(0, 4, 0, 0), (5, 23, -1, 0)])
        self.assertEqual(spells([(5, 0, 2, 2), (5, 0, 0, 0)], 0), [(0, 23, 0, 0)])

    def test_unlike_in_one_part_only(self):
        self.assertEqual(spells([(0, 0, 1, 2), (8, 0, 1, -2)], 0), [(0, 7, 1, 2), (8, 23, 1, -2)])
        self.assertEqual(spells([(0, 0, 1, 2), (8, 0, -1, 2)], 0), [(0, 7, 1, 2), (8, 23, -1, 2)])

    def test_another_wind_each_hour(self):
        winds = [(hour, 4, hour % 2, 1) for hour in range(24)]
        self.assertEqual(spells(winds, 4), [(hour, hour, hour % 2, 1) for hour in range(24)])

    def test_they_part_all_hours(self):
        chance = random.Random(6)
        for turn in range(300):
            winds, height = some_winds(chance), chance.randint(0, 2)
            told = spells(winds, height)
            hours = [hour for first, last, dx, dy in told for hour in range(first, last + 1)]
            self.assertEqual(hours, list(range(24)), winds)
            for first, last, dx, dy in told:
                for hour in range(first, last + 1):
                    self.assertEqual((dx, dy), plain_wind(winds, hour, height), winds)
            for one, other in zip(told, told[1:]):
                self.assertNotEqual(one[2:], other[2:], winds)

    def test_a_list_of_tuples(self):
        told = spells([(7, 0, 1, 1)], 0)
        self.assertIsInstance(told, list)
        self.assertEqual([type(spell) for spell in told], [tuple, tuple])

    def test_a_told_list_that_is_changed(self):
        for winds in ([], [(7, 0, 1, 1)]):
            told = spells(winds, 0)
            before = list(told)
            told[0] = (9, 9, 9, 9)
            told.append("x")
            self.assertEqual(spells(winds, 0), before)

    def test_the_list_stays_as_it_was(self):
        winds = [(9, 0, 2, -2), (3, 0, -1, 1), (3, 0, 1, 1)]
        before = list(winds)
        spells(winds, 0)
        self.assertEqual(winds, before)

    def test_a_list_changed_behind_a_call(self):
        winds = [(9, 0, 2, -2)]
        told = spells(winds, 0)
        winds.clear()
        self.assertEqual(told, [(0, 8, 0, 0), (9, 23, 2, -2)])
        self.assertEqual(spells(winds, 0), [(0, 23, 0, 0)])


if __name__ == "__main__":
    unittest.main()

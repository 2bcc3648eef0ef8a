"""Races: [18] and the interface of ballastbook/races.py."""

import itertools
import random
import unittest

from ballastbook.races import distance, nearest, ranked
from tests.plain import (
    BARRED_SKY, CALM, WALLED_SKY, copied, flights_up_to, some_sky, some_state)

# A wind at height 1 only.
LOW_WIND = ([], [], [(0, 1, 1, 0)], [])


def plain_distance(x, y, to_x, to_y):
    return max(x, to_x) - min(x, to_x) + max(y, to_y) - min(y, to_y)


def plain_nearest(sky, hour, state, many, x, y):
    """The nearest, by the words of [18], out of all rows."""
    stands = [(plain_distance(*stood[-1][:2], x, y), hour + len(row))
              for row, stood in flights_up_to(sky, hour, state, many)]
    least = min(far for far, at in stands)
    return (least, min(at for far, at in stands if far == least))


class Distance(unittest.TestCase):
    def test_one_place(self):
        for x, y in ((0, 0), (7, -3), (-2000, 2000)):
            self.assertEqual(distance(x, y, x, y), 0)

    def test_in_x_alone(self):
        self.assertEqual(distance(1, 4, 6, 4), 5)
        self.assertEqual(distance(-3, 4, 2, 4), 5)
        self.assertEqual(distance(-3, 4, -8, 4), 5)

    def test_in_y_alone(self):
        self.assertEqual(distance(4, 1, 4, 7), 6)
        self.assertEqual(distance(4, -2, 4, 4), 6)
        self.assertEqual(distance(-4, -2, -4, -8), 6)

    def test_in_both(self):
        self.assertEqual(distance(1, 1, 4, 5), 7)
        self.assertEqual(distance(1, 5, 4, 1), 7)
        self.assertEqual(distance(-1, 2, 2, -2), 7)
        self.assertEqual(distance(-4, -5, -1, -1), 7)

    def test_the_same_both_ways_round(self):
        for x, y, to_x, to_y in itertools.product((-3, -1, 0, 2), repeat=4):
            told = distance(x, y, to_x, to_y)
            self.assertEqual(told, distance(to_x, to_y, x, y))
            self.assertEqual(told, plain_distance(x, y, to_x, to_y))

    def test_at_the_bounds(self):
        self.assertEqual(distance(-2000, -2000, 2000, 2000), 8000)
        self.assertEqual(distance(2000, -2000, -2000, 2000), 8000)
        self.assertEqual(distance(2000, 0, -2000, 0), 4000)
        self.assertEqual(distance(0, -2000, 0, 2000), 4000)


class Ranked(unittest.TestCase):
    def test_no_states(self):
        self.assertEqual(ranked([], 0, 0), [])

    def test_one(self):
        self.assertEqual(ranked([(5, 5, 0, 0, 0)], 0, 0), [0])

    def test_the_nearer_first(self):
        states = [(5, 0, 0, 6, 6), (0, 1, 0, 0, 0), (-2, -1, 5, 3, 3), (0, 0, 0, 0, 0)]
        self.assertEqual(ranked(states, 0, 0), [3, 1, 2, 0])
        self.assertEqual(ranked(states, 5, 0), [0, 3, 1, 2])

    def test_of_equally_near_ones_more_puffs_first(self):
        states = [(1, 0, 0, 6, 2), (0, 1, 5, 0, 3), (-1, 0, 2, 0, 6), (0, -1, 1, 6, 0)]
        self.assertEqual(ranked(states, 0, 0), [2, 1, 0, 3])

    def test_then_more_sacks(self):
        states = [(1, 0, 0, 1, 2), (0, 1, 5, 4, 2), (-1, 0, 2, 6, 2), (0, -1, 1, 0, 2)]
        self.assertEqual(ranked(states, 0, 0), [2, 1, 0, 3])

    def test_then_as_they_come(self):
        states = [(1, 0, 0, 3, 2), (0, 1, 5, 3, 2), (-1, 0, 2, 3, 2), (0, -1, 1, 3, 2)]
        self.assertEqual(ranked(states, 0, 0), [0, 1, 2, 3])
        self.assertEqual(ranked(states[::-1], 0, 0), [0, 1, 2, 3])

    def test_heights_say_nothing(self):
        states = [(1, 0, height, 3, 2) for height in (3, 0, 5, 1)]
        self.assertEqual(ranked(states, 0, 0), [0, 1, 2, 3])

    def test_alike_ones_keep_their_order(self):
        states = [(4, 4, 1, 1, 1), (0, 0, 2, 1, 1), (4, 4, 1, 1, 1), (0, 0, 2, 1, 1)]
        self.assertEqual(ranked(states, 0, 0), [1, 3, 0, 2])

    def test_each_place_once_and_each_pair_in_its_order(self):
        chance = random.Random(190)
        for turn in range(100):
            states = [some_state(chance, most=2) for number in range(chance.randint(0, 8))]
            x, y = chance.randint(-2, 2), chance.randint(-2, 2)
            told = ranked(states, x, y)
            self.assertEqual(sorted(told), list(range(len(states))))
            for one, other in zip(told, told[1:]):
                mine, theirs = states[one], states[other]
                keys = [(plain_distance(*state[:2], x, y), 6 - state[4], 6 - state[3], at)
                        for state, at in ((mine, one), (theirs, other))]
                self.assertLess(keys[0], keys[1], (states, x, y))

    def test_the_handed_list_stays(self):
        states = [(5, 0, 0, 6, 6), (0, 1, 0, 0, 0), (-2, -1, 5, 3, 3)]
        before = list(states)
        told = ranked(states, 0, 0)
        told.clear()
        self.assertEqual(states, before)
        self.assertEqual(ranked(states, 0, 0), [1, 2, 0])


class Nearest(unittest.TestCase):
    def test_its_own_place(self):
        for sky in (CALM, LOW_WIND, BARRED_SKY, WALLED_SKY):
            for hour, many in ((0, 0), (3, 8), (24, 0)):
                self.assertEqual(nearest(sky, hour, (0, 0, 1, 3, 3), many, 0, 0), (0, hour))

    def test_its_own_place_where_it_may_not_stand(self):
        self.assertEqual(nearest(([(0, 0, 5)], [], [], []), 4, (0, 0, 1, 2, 4), 3, 0, 0), (0, 4))

    def test_many_0(self):
        self.assertEqual(nearest(LOW_WIND, 7, (0, 0, 1, 6, 6), 0, 3, -2), (5, 7))
        self.assertEqual(nearest(LOW_WIND, 24, (0, 0, 1, 6, 6), 0, 1, 0), (1, 24))

    def test_places_that_are_reached(self):
        for x in range(6):
            self.assertEqual(nearest(LOW_WIND, 10, (0, 0, 1, 0, 0), 5, x, 0), (0, 10 + x))

    def test_the_first_hour_of_several(self):
        # Down into the wind at any hour: the first counts.
        self.assertEqual(nearest(LOW_WIND, 10, (0, 0, 2, 0, 1), 5, 1, 0), (0, 11))

    def test_places_that_are_not_reached(self):
        self.assertEqual(nearest(LOW_WIND, 10, (0, 0, 1, 0, 0), 5, 7, 0), (2, 15))
        self.assertEqual(nearest(LOW_WIND, 10, (0, 0, 1, 0, 0), 5, 3, 2), (2, 13))
        self.assertEqual(nearest(LOW_WIND, 10, (0, 0, 1, 0, 0), 5, -4, 1), (5, 10))
        self.assertEqual(nearest(CALM, 10, (0, 0, 1, 6, 6), 8, 900, -900), (1800, 10))

    def test_flights_of_fewer_orders_count(self):
        # A wind that leads past the place: the nearest is at an hour between.
        sky = ([], [], [(0, 1, 2, 0)], [])
        self.assertEqual(nearest(sky, 0, (0, 0, 1, 0, 0), 8, 4, 0), (0, 2))
        self.assertEqual(nearest(sky, 0, (0, 0, 1, 0, 0), 8, 5, 0), (1, 2))
        self.assertEqual(nearest(sky, 0, (0, 0, 1, 0, 0), 2, 5, 0), (1, 2))
        self.assertEqual(nearest(sky, 0, (0, 0, 1, 0, 0), 1, 5, 0), (3, 1))

    def test_hills_in_the_way(self):
        sky = ([(3, 0, 2)],) + LOW_WIND[1:]
        self.assertEqual(nearest(sky, 0, (0, 0, 1, 0, 0), 8, 6, 0), (4, 2))
        self.assertEqual(nearest(WALLED_SKY, 0, (0, 0, 1, 6, 6), 8, 1, 1), (2, 0))

    def test_shut_air_in_the_way(self):
        for hour, told in ((3, (3, 2)), (2, (0, 5)), (4, (0, 5))):
            sky = LOW_WIND[:3] + ([(3, 0, 3, 0, 0, 5, hour, hour)],)
            self.assertEqual(nearest(sky, 0, (0, 0, 1, 0, 0), 8, 5, 0), told, hour)

    def test_against_trying_all_rows(self):
        chance = random.Random(191)
        for turn in range(60):
            hour, many = chance.choice((0, 5, 19)), chance.randint(0, 5)
            sky, state = some_sky(chance, hour), some_state(chance)
            for number in range(6):
                x, y = chance.randint(-7, 7), chance.randint(-7, 7)
                asked = (sky, hour, state, many, x, y)
                self.assertEqual(nearest(*asked), plain_nearest(*asked), asked)

    def test_against_trying_all_rows_for_eight_hours(self):
        chance = random.Random(192)
        for turn in range(3):
            asked = (some_sky(chance, 16), 16, some_state(chance, most=2), 8, 7, -5)
            self.assertEqual(nearest(*asked), plain_nearest(*asked), asked)

    def test_the_sky_stays_as_it_was(self):
        sky = copied(BARRED_SKY)
        nearest(sky, 0, (0, 0, 2, 3, 3), 8, 9, 9)
        self.assertEqual(sky, BARRED_SKY)


if __name__ == "__main__":
    unittest.main()

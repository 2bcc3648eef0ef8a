"""Needs: [11], [14] and the interface of ballastbook/needs.py."""

import itertools
import random
import time
import unittest

from ballastbook.needs import needed
from tests.plain import (
    BARRED_SKY, CALM, FORKED_SKY, WALLED_SKY, copied, flights_up_to, plain_least, some_sky)

ALL_PAIRS = list(itertools.product(range(7), repeat=2))
# All hours cool, and a wind at height 2 only.
COOL_SKY = ([], list(range(24)), [(0, 2, 1, 0)], [])


class AgainstAllRows(unittest.TestCase):
    def agree(self, sky, hour, many, x, y, height):
        reached = {pair: {stood[-1][:2] for row, stood in
                          flights_up_to(sky, hour, (x, y, height) + pair, many)}
                   for pair in ALL_PAIRS}
        goals = {(to_x + dx, to_y) for to_x, to_y in reached[(6, 6)] for dx in (-1, 0, 1)}
        for to_x, to_y in sorted(goals):
            pairs = [pair for pair in ALL_PAIRS if (to_x, to_y) in reached[pair]]
            asked = (sky, hour, many, x, y, height, to_x, to_y)
            self.assertEqual(needed(*asked), plain_least(pairs), asked)

    def test_a_sky_that_bars_some(self):
        self.agree(BARRED_SKY, 0, 5, 0, 0, 2)
        self.agree(BARRED_SKY, 1, 4, 0, 0, 4)

    def test_a_forked_sky(self):
        for height in range(3):
            self.agree(FORKED_SKY, 0, 4, 0, 0, height)

    def test_all_hours_cool(self):
        self.agree(COOL_SKY, 19, 5, 0, 0, 3)

    def test_some_skies(self):
        chance = random.Random(140)
        for turn in range(12):
            hour = chance.choice((0, 8, 20))
            self.agree(some_sky(chance, hour), hour, chance.choice((2, 3, 4)), 0, 0,
                       chance.randint(0, 5))


class Needed(unittest.TestCase):
    def test_its_own_place(self):
        for sky, many in itertools.product((CALM, BARRED_SKY, WALLED_SKY), (0, 1, 8)):
            for height in range(6):
                self.assertEqual(needed(sky, 0, many, 0, 0, height, 0, 0), [(0, 0)])

    def test_no_hours(self):
        self.assertEqual(needed(COOL_SKY, 24, 0, 0, 0, 2, 0, 0), [(0, 0)])
        self.assertEqual(needed(COOL_SKY, 24, 0, 0, 0, 2, 1, 0), [])

    def test_without_any_cost(self):
        self.assertEqual(needed(([], [], [(0, 1, 1, 0)], []), 0, 3, 0, 0, 1, 3, 0), [(0, 0)])

    def test_one_pair(self):
        sky = ([], [], [(0, 4, 1, 0)], [])
        self.assertEqual(needed(sky, 0, 8, 0, 0, 1, 1, 0), [(3, 0)])
        self.assertEqual(needed(sky, 0, 3, 0, 0, 1, 1, 0), [(3, 0)])
        self.assertEqual(needed(sky, 0, 2, 0, 0, 1, 1, 0), [])
        self.assertEqual(needed(sky, 0, 8, 0, 0, 5, 1, 0), [(0, 1)])

    def test_several_pairs_none_of_which_beats_another(self):
        self.assertEqual(needed(FORKED_SKY, 0, 3, 0, 0, 1, 1, 0), [(0, 1), (1, 0)])
        # Along heights 0 and 4 only: from height 2 two puffs or two sacks lead there.
        sky = ([], [], [(0, 0, 1, 0), (0, 4, 1, 0)], [])
        self.assertEqual(needed(sky, 0, 5, 0, 0, 2, 1, 0), [(0, 2), (2, 0)])
        self.assertEqual(needed(sky, 0, 5, 0, 0, 3, 1, 0), [(0, 3), (1, 0)])

    def test_the_most_that_can_be_needed(self):
        # One cool hour behind the other: to stay in the wind costs a sack each hour.
        self.assertEqual(needed(COOL_SKY, 0, 6, 0, 0, 2, 6, 0), [(6, 0)])
        self.assertEqual(needed(COOL_SKY, 0, 7, 0, 0, 2, 7, 0), [])
        self.assertEqual(needed(COOL_SKY, 0, 8, 0, 0, 2, 8, 0), [])

    def test_all_hours_cool_with_one_wind(self):
        for many in range(9):
            for steps in range(10):
                told = [(steps, 0)] if steps <= min(many, 6) else []
                asked = (COOL_SKY, 0, many, 0, 0, 2, steps, 0)
                self.assertEqual(needed(*asked), told, asked)
                # From one height above the first step comes for nothing.
                told = [(max(steps - 1, 0), 0)] if steps <= min(many, 7) else []
                asked = (COOL_SKY, 0, many, 0, 0, 3, steps, 0)
                self.assertEqual(needed(*asked), told, asked)
            self.assertEqual(needed(COOL_SKY, 0, many, 0, 0, 2, -1, 0), [])
            self.assertEqual(needed(COOL_SKY, 0, many, 0, 0, 2, 1, 1), [])

    def test_from_another_place(self):
        self.assertEqual(needed(COOL_SKY, 16, 8, -700, 1500, 2, -698, 1500), [(2, 0)])
        self.assertEqual(needed(COOL_SKY, 16, 8, -700, 1500, 2, 2, 0), [])

    def test_a_goal_that_six_of_each_do_not_reach(self):
        self.assertEqual(needed(WALLED_SKY, 0, 8, 0, 0, 2, 1, 1), [])
        self.assertEqual(needed(CALM, 0, 8, 0, 0, 2, 1, 0), [])

    def test_a_told_list_that_is_changed(self):
        told = needed(FORKED_SKY, 0, 3, 0, 0, 1, 1, 0)
        told.clear()
        self.assertEqual(needed(FORKED_SKY, 0, 3, 0, 0, 1, 1, 0), [(0, 1), (1, 0)])

    def test_a_list_of_pairs(self):
        told = needed(FORKED_SKY, 0, 3, 0, 0, 1, 1, 0)
        self.assertIsInstance(told, list)
        self.assertEqual([type(pair) for pair in told], [tuple, tuple])

    def test_the_sky_stays_as_it_was(self):
        sky = copied(BARRED_SKY)
        needed(sky, 0, 8, 0, 0, 2, 1, 0)
        self.assertEqual(sky, BARRED_SKY)

    def test_soon(self):
        begun = time.perf_counter()
        for x in range(-5, 5):
            needed(BARRED_SKY, 0, 8, 0, 0, 2, x, 1)
        self.assertLess(time.perf_counter() - begun, 30)


if __name__ == "__main__":
    unittest.main()

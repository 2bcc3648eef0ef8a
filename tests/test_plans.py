"""Plans: [9], [10], [11], [13] and the interface of ballastbook/plans.py."""

import random
import time
import unittest

from ballastbook.plans import best, ways
from tests.plain import (
    BARRED_SKY, CALM, FORKED_SKY, WALLED_SKY, copied, flights_up_to, in_order, plain_flown,
    plain_front, some_sky, some_state)

# A wind at height 1 only.
LOW_WIND = ([], [], [(0, 1, 1, 0)], [])


def plain_ways(flights, x, y):
    """The ways to a place, by the words of [13], out of all flights."""
    there = [(stood[-1][3:], row) for row, stood in flights if stood[-1][:2] == (x, y)]
    return [pair + (min([row for left, row in there if left == pair], key=in_order),)
            for pair in plain_front([left for left, row in there])]


def plain_best(flights, x, y):
    """The best way, by the words of [13], out of all flights."""
    there = [(-stood[-1][4], -stood[-1][3], in_order(row), row)
             for row, stood in flights if stood[-1][:2] == (x, y)]
    return min(there)[3] if there else None


class AgainstAllRows(unittest.TestCase):
    def agree(self, sky, hour, state, many):
        flights = flights_up_to(sky, hour, state, many)
        reached = {stood[-1][:2] for row, stood in flights}
        around = {(x + dx, y + dy) for x, y in reached for dx in (-1, 0, 1) for dy in (-1, 0, 1)}
        for x, y in sorted(around) + [(1000, -1000)]:
            asked = (sky, hour, state, many, x, y)
            told = ways(*asked)
            self.assertEqual(told, plain_ways(flights, x, y), asked)
            self.assertEqual(best(*asked), plain_best(flights, x, y), asked)
            self.assertEqual(told == [], (x, y) not in reached, asked)
            for sacks, puffs, orders in told:
                self.assertLessEqual(len(orders), many)
                self.assertEqual(plain_flown(sky, hour, state, orders)[-1][:2], (x, y))
                self.assertEqual(plain_flown(sky, hour, state, orders)[-1][3:], (sacks, puffs))

    def test_a_sky_that_bars_some(self):
        for height in range(6):
            self.agree(BARRED_SKY, 0, (0, 0, height, 3, 3), 5)

    def test_a_forked_sky(self):
        for height in range(4):
            self.agree(FORKED_SKY, 0, (0, 0, height, 3, 3), 5)

    def test_one_wind(self):
        for height in range(4):
            self.agree(LOW_WIND, 19, (0, 0, height, 2, 2), 5)

    def test_cool_hours_at_the_bottom(self):
        sky = ([], [1, 2, 4], [(0, 0, 0, 1), (0, 1, 1, 0), (0, 2, 0, 1), (3, 1, 0, 1)], [])
        for height in range(4):
            self.agree(sky, 0, (0, 0, height, 3, 3), 5)

    def test_some_skies(self):
        chance = random.Random(130)
        for turn in range(60):
            hour = chance.choice((0, 6, 20))
            self.agree(some_sky(chance, hour), hour, some_state(chance), 4)

    def test_winds_of_a_small_field(self):
        # Few places, so that many flights with unlike loads come to the same one.
        chance = random.Random(131)
        for turn in range(40):
            winds = [(chance.randint(0, 4), chance.randint(0, 5), chance.randint(-1, 1),
                      chance.choice((0, 0, 1))) for number in range(12)]
            cool = [hour for hour in range(5) if chance.random() < 0.6]
            self.agree(([], cool, winds, []), 0, (0, 0, chance.randint(0, 3), 4, 4), 5)

    def test_eight_hours_with_few_sacks_and_puffs(self):
        chance = random.Random(132)
        for turn in range(3):
            self.agree(some_sky(chance, 16, reach=2), 16, some_state(chance, most=2), 8)


class Ways(unittest.TestCase):
    def test_the_place_that_the_state_stands_over(self):
        for sky in (CALM, LOW_WIND, BARRED_SKY, WALLED_SKY):
            for many in (0, 1, 5):
                self.assertEqual(ways(sky, 3, (0, 0, 1, 2, 4), many, 0, 0), [(2, 4, ())])

    def test_its_own_place_where_it_may_not_stand(self):
        self.assertEqual(ways(([(0, 0, 5)], [], [], []), 0, (0, 0, 1, 2, 4), 3, 0, 0), [(2, 4, ())])

    def test_no_hours(self):
        self.assertEqual(ways(LOW_WIND, 24, (0, 0, 1, 2, 2), 0, 0, 0), [(2, 2, ())])
        self.assertEqual(ways(LOW_WIND, 24, (0, 0, 1, 2, 2), 0, 1, 0), [])

    def test_places_along_a_wind_and_their_neighbours(self):
        for many in range(5):
            for x in range(-1, 7):
                told = [(0, 0, ("level",) * x)] if 0 <= x <= many else []
                self.assertEqual(ways(LOW_WIND, 0, (0, 0, 1, 0, 0), many, x, 0), told, (many, x))
                self.assertEqual(ways(LOW_WIND, 0, (0, 0, 1, 0, 0), many, x, 1), [])
                self.assertEqual(ways(LOW_WIND, 0, (0, 0, 1, 0, 0), many, x, -1), [])

    def test_a_longer_row_can_go_ahead(self):
        for many in range(1, 9):
            self.assertEqual(ways(LOW_WIND, 0, (0, 0, 2, 0, 1), many, 1, 0),
                             [(0, 0, ("level",) * (many - 1) + ("down",))])

    def test_up_goes_ahead_of_level_and_level_of_down(self):
        # Height 2 and 0 both are calm: up and down, in any order, keep the same pair.
        told = ways(LOW_WIND, 0, (0, 0, 1, 1, 1), 3, 1, 0)
        self.assertEqual(told, [(1, 1, ("level",))])
        told = ways(([], [], [(2, 1, 1, 0)], []), 0, (0, 0, 1, 1, 1), 3, 1, 0)
        self.assertEqual(told, [(1, 1, ("level", "level", "level"))])
        told = ways(([], [], [(2, 1, 1, 0)], [(0, 0, 0, 0, 1, 1, 1, 1)]), 0, (0, 0, 1, 1, 1), 3, 1, 0)
        self.assertEqual(told, [(0, 0, ("up", "level", "down"))])

    def test_a_row_goes_ahead_of_a_longer_one_that_begins_with_it(self):
        # Level onward is calm again: the longer rows end with the same pair.
        sky = ([], [], [(0, 1, 1, 0), (1, 1, 0, 0)], [])
        self.assertEqual(ways(sky, 0, (0, 0, 1, 0, 0), 4, 1, 0), [(0, 0, ("level",))])

    def test_two_that_do_not_beat_each_other(self):
        self.assertEqual(ways(FORKED_SKY, 0, (0, 0, 1, 1, 1), 3, 1, 0),
                         [(0, 1, ("up",)), (1, 0, ("down",))])
        self.assertEqual(ways(FORKED_SKY, 0, (0, 0, 1, 6, 6), 8, 1, 0),
                         [(5, 6, ("up",)), (6, 5, ("down",))])

    def test_nothing_can_be_flown(self):
        self.assertEqual(ways(WALLED_SKY, 0, (0, 0, 5, 6, 6), 8, 1, 1), [])

    def test_kinds(self):
        told = ways(FORKED_SKY, 0, (0, 0, 1, 1, 1), 3, 1, 0)
        self.assertIsInstance(told, list)
        for way in told:
            self.assertIsInstance(way, tuple)
            self.assertIsInstance(way[2], tuple)

    def test_a_told_list_that_is_changed(self):
        told = ways(FORKED_SKY, 0, (0, 0, 1, 1, 1), 3, 1, 0)
        told.reverse()
        told.append("x")
        self.assertEqual(ways(FORKED_SKY, 0, (0, 0, 1, 1, 1), 3, 1, 0),
                         [(0, 1, ("up",)), (1, 0, ("down",))])

    def test_the_sky_stays_as_it_was(self):
        sky = copied(BARRED_SKY)
        ways(sky, 0, (0, 0, 2, 3, 3), 6, 1, 0)
        best(sky, 0, (0, 0, 2, 3, 3), 6, 1, 0)
        self.assertEqual(sky, BARRED_SKY)

    def test_soon(self):
        begun = time.perf_counter()
        for x in range(-5, 5):
            ways(BARRED_SKY, 0, (0, 0, 2, 6, 6), 8, x, 1)
            best(BARRED_SKY, 0, (0, 0, 2, 6, 6), 8, x, 1)
        self.assertLess(time.perf_counter() - begun, 30)


class Best(unittest.TestCase):
    def test_the_most_puffs(self):
        self.assertEqual(best(FORKED_SKY, 0, (0, 0, 1, 1, 1), 3, 1, 0), ("up",))

    def test_of_these_the_most_sacks(self):
        # Both up and level lead along, level for nothing.
        sky = ([], [], [(0, 2, 1, 0), (0, 1, 1, 0), (1, 1, 0, 0)], [])
        self.assertEqual(best(sky, 0, (0, 0, 1, 3, 3), 1, 1, 0), ("level",))

    def test_of_these_the_first_in_order(self):
        self.assertEqual(best(LOW_WIND, 0, (0, 0, 2, 0, 1), 3, 1, 0), ("level", "level", "down"))

    def test_no_way(self):
        self.assertIsNone(best(LOW_WIND, 0, (0, 0, 1, 3, 3), 5, 0, 1))
        self.assertIsNone(best(LOW_WIND, 0, (0, 0, 1, 3, 3), 5, 6, 0))
        self.assertIsNone(best(WALLED_SKY, 0, (0, 0, 1, 3, 3), 5, 1, 1))

    def test_its_own_place(self):
        for many in (0, 4):
            self.assertEqual(best(LOW_WIND, 0, (0, 0, 1, 3, 3), many, 0, 0), ())


if __name__ == "__main__":
    unittest.main()

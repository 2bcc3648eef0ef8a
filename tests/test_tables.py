"""Tables: [9], [10], [12] and the interface of ballastbook/tables.py."""

import copy
import random
import time
import unittest

from ballastbook.tables import count_flights, first_over, states, table
from tests.plain import (
    BARRED_SKY, CALM, FORKED_SKY, WALLED_SKY, all_flights, copied, plain_beats, plain_step, plain_thinned,
    some_sky, some_state)

# Another wind at each height and hour: flights spread as far as can be.
GUSTY_SKY = ([(3, 3, 4), (-2, 1, 3)], [1, 5],
             [(hour, height, (hour * 7 + height * 3) % 5 - 2, (hour * 3 + height * 5) % 5 - 2)
              for hour in range(24) for height in range(6)],
             [(5, 5, 9, 9, 0, 5, 3, 20)])


class AgainstAllRows(unittest.TestCase):
    def agree(self, sky, hour, state, many):
        rows = table(sky, hour, state, many)
        self.assertEqual(len(rows), many + 1)
        for length in range(many + 1):
            ends = [stood[-1] for row, stood in all_flights(sky, hour, state, length)]
            asked = (sky, hour, state, length)
            self.assertEqual(count_flights(*asked), len(ends), asked)
            self.assertEqual(states(*asked), sorted(set(ends)), asked)
            self.assertEqual(rows[length], plain_thinned(set(ends)), asked)

    def test_a_calm_sky(self):
        for height in range(6):
            self.agree(CALM, 0, (0, 0, height, 2, 2), 5)

    def test_a_sky_that_bars_some(self):
        for height in range(6):
            self.agree(BARRED_SKY, 0, (0, 0, height, 3, 3), 5)

    def test_a_gusty_sky(self):
        self.agree(GUSTY_SKY, 0, (0, 0, 2, 6, 6), 5)
        self.agree(GUSTY_SKY, 19, (0, 0, 3, 6, 6), 5)

    def test_a_forked_sky(self):
        for height in range(3):
            self.agree(FORKED_SKY, 0, (0, 0, height, 2, 2), 5)

    def test_cool_hours_at_the_bottom(self):
        sky = ([], list(range(24)), [(0, 1, 1, 0), (0, 2, 1, 0)], [])
        for height in range(3):
            self.agree(sky, 2, (0, 0, height, 5, 5), 5)

    def test_some_skies_for_five_hours(self):
        chance = random.Random(120)
        for turn in range(60):
            hour = chance.choice((0, 3, 19))
            self.agree(some_sky(chance, hour), hour, some_state(chance), 5)

    def test_some_skies_for_eight_hours_with_few_sacks_and_puffs(self):
        chance = random.Random(121)
        for turn in range(4):
            hour = chance.choice((0, 9, 16))
            self.agree(some_sky(chance, hour), hour, some_state(chance, most=2), 8)

    def test_no_flight_at_all(self):
        for height in range(6):
            self.agree(WALLED_SKY, 0, (0, 0, height, 6, 6), 3)


class States(unittest.TestCase):
    def test_no_hours(self):
        for hour in (0, 24):
            self.assertEqual(states(CALM, hour, (1, 2, 3, 4, 5), 0), [(1, 2, 3, 4, 5)])

    def test_no_hours_where_the_state_may_not_stand(self):
        self.assertEqual(states(([(1, 2, 5)], [], [], []), 0, (1, 2, 3, 4, 5), 0), [(1, 2, 3, 4, 5)])

    def test_one_hour(self):
        self.assertEqual(states(([], [], [(0, 1, 1, 0)], []), 0, (0, 0, 2, 1, 1), 1),
                         [(0, 0, 2, 1, 1), (0, 0, 3, 0, 1), (1, 0, 1, 1, 0)])

    def test_each_once_and_beaten_ones_too(self):
        self.assertEqual(states(CALM, 0, (0, 0, 2, 1, 1), 2),
                         [(0, 0, 1, 1, 0), (0, 0, 2, 0, 0), (0, 0, 2, 1, 1), (0, 0, 3, 0, 1)])

    def test_nothing(self):
        self.assertEqual(states(WALLED_SKY, 0, (0, 0, 5, 6, 6), 1), [])
        self.assertEqual(states(WALLED_SKY, 0, (0, 0, 5, 6, 6), 8), [])

    def test_a_told_list_that_is_changed(self):
        told = states(CALM, 0, (0, 0, 2, 1, 1), 1)
        before = list(told)
        told.clear()
        self.assertEqual(states(CALM, 0, (0, 0, 2, 1, 1), 1), before)


class CountFlights(unittest.TestCase):
    def test_no_hours(self):
        for sky in (CALM, WALLED_SKY):
            self.assertEqual(count_flights(sky, 24, (0, 0, 2, 6, 6), 0), 1)

    def test_nothing_but_level(self):
        self.assertEqual(count_flights(CALM, 16, (0, 0, 2, 0, 0), 8), 1)

    def test_flights_to_one_state_are_counted_apart(self):
        self.assertEqual(count_flights(CALM, 0, (0, 0, 2, 1, 1), 1), 3)
        self.assertEqual(count_flights(CALM, 0, (0, 0, 2, 1, 1), 2), 7)
        self.assertEqual(count_flights(CALM, 0, (0, 0, 2, 1, 0), 8), 9)

    def test_no_flight(self):
        self.assertEqual(count_flights(WALLED_SKY, 0, (0, 0, 5, 6, 6), 1), 0)
        self.assertEqual(count_flights(WALLED_SKY, 0, (0, 0, 5, 6, 6), 4), 0)


class Table(unittest.TestCase):
    def test_no_hours(self):
        for sky in (CALM, WALLED_SKY, ([(1, 2, 5)], [], [], [])):
            self.assertEqual(table(sky, 24, (1, 2, 3, 4, 5), 0), [[(1, 2, 3, 4, 5)]])

    def test_no_flight(self):
        self.assertEqual(table(WALLED_SKY, 0, (0, 0, 5, 6, 6), 3), [[(0, 0, 5, 6, 6)], [], [], []])

    def test_beaten_ones_are_left_out(self):
        self.assertEqual(table(CALM, 0, (0, 0, 2, 1, 1), 2), [
            [(0, 0, 2, 1, 1)],
            [(0, 0, 1, 1, 0), (0, 0, 2, 1, 1), (0, 0, 3, 0, 1)],
            [(0, 0, 1, 1, 0), (0, 0, 2, 1, 1), (0, 0, 3, 0, 1)]])

    def test_a_beaten_one_of_a_cool_hour(self):
        # Level and down come to the ground both, level with more left.
        sky = ([], [0, 1, 2, 3], [], [])
        self.assertEqual(table(sky, 0, (0, 0, 1, 2, 2), 1),
                         [[(0, 0, 1, 2, 2)], [(0, 0, 0, 2, 2), (0, 0, 1, 1, 2)]])

    def test_two_at_one_place_and_height_that_do_not_beat_each_other(self):
        self.assertEqual(table(FORKED_SKY, 0, (0, 0, 1, 1, 1), 3)[3],
                         [(0, 0, 0, 1, 1), (1, 0, 0, 0, 1), (1, 0, 0, 1, 0)])

    def test_each_list_as_the_document_tells(self):
        chance = random.Random(122)
        for turn in range(30):
            hour = chance.choice((0, 16))
            sky, state = some_sky(chance, hour), some_state(chance)
            rows = table(sky, hour, state, 8)
            self.assertEqual(len(rows), 9)
            self.assertEqual(rows[0], [state])
            for found in rows:
                self.assertEqual(found, sorted(set(found)))
                self.assertEqual(found, plain_thinned(found))

    def test_what_orders_lead_to_is_covered_by_the_next_list(self):
        chance = random.Random(123)
        for turn in range(20):
            sky, state = some_sky(chance, 4), some_state(chance)
            rows = table(sky, 4, state, 6)
            for at, found in enumerate(rows[:-1]):
                for before in found:
                    for order in ("up", "level", "down"):
                        why, after = plain_step(sky, 4 + at, before, order)
                        self.assertTrue(why is not None or any(
                            other == after
                            or other[:3] == after[:3] and plain_beats(other[3:], after[3:])
                            for other in rows[at + 1]), (sky, before, order))

    def test_told_lists_that_are_changed(self):
        told = table(BARRED_SKY, 0, (0, 0, 2, 3, 3), 3)
        before = copy.deepcopy(told)
        told[0].clear()
        told[2].append("x")
        told.pop()
        self.assertEqual(table(BARRED_SKY, 0, (0, 0, 2, 3, 3), 3), before)

    def test_the_sky_stays_as_it_was(self):
        sky = copied(BARRED_SKY)
        for asked in (table, states, count_flights):
            asked(sky, 0, (0, 0, 2, 3, 3), 6)
        self.assertEqual(sky, BARRED_SKY)


class Soon(unittest.TestCase):
    def test_eight_hours_with_six_of_each(self):
        begun = time.perf_counter()
        for height in range(6):
            for asked in (table, states, count_flights):
                asked(GUSTY_SKY, 0, (0, 0, height, 6, 6), 8)
                asked(CALM, 16, (0, 0, height, 6, 6), 8)
        self.assertLess(time.perf_counter() - begun, 30)


class FirstOver(unittest.TestCase):
    rows = [[(0, 0, 1, 2, 2)], [], [(1, 0, 5, 0, 0), (2, 3, 4, 6, 6), (2, 4, 0, 0, 0)],
            [(2, 3, 4, 6, 6), (0, 0, 1, 2, 2), (7, 7, 0, 0, 0)]]

    def test_no_lists(self):
        self.assertIsNone(first_over([], 0, 0))

    def test_empty_lists(self):
        self.assertIsNone(first_over([[]], 0, 0))
        self.assertIsNone(first_over([[], [], []], 0, 0))

    def test_a_place_over_which_none_stands(self):
        for x, y in ((1, 1), (3, 2), (2, 0), (0, 3), (-2, -3)):
            self.assertIsNone(first_over(self.rows, x, y), (x, y))

    def test_the_first_of_several_lists(self):
        self.assertEqual(first_over(self.rows, 0, 0), 0)
        self.assertEqual(first_over(self.rows, 2, 3), 2)
        self.assertEqual(first_over(self.rows, 2, 4), 2)
        self.assertEqual(first_over(self.rows, 7, 7), 3)

    def test_any_height(self):
        for height in range(6):
            self.assertEqual(first_over([[], [(5, -5, height, 0, 0)]], 5, -5), 1)

    def test_the_lists_stay_as_they_were(self):
        rows = copy.deepcopy(self.rows)
        first_over(rows, 7, 7)
        first_over(rows, 9, 9)
        self.assertEqual(rows, self.rows)


if __name__ == "__main__":
    unittest.main()

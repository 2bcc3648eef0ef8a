"""An hour's flight: [7], [8], [9], [10] and the interface of ballastbook/steps.py."""

import itertools
import random
import unittest

from ballastbook.errors import Stopped
from ballastbook.steps import choices, flown, next_state, why_not
from tests.plain import (
    BARRED_SKY, CALM, ORDERS, WALLED_SKY, all_flights, copied, plain_flown, plain_step, some_sky,
    some_state)

# Another wind at each height, so that the wind tells which height it was asked for.
LAYERS = [(0, height, height - 2, 2 - height) for height in range(5)] + [(0, 5, 2, 2)]


class Asked(unittest.TestCase):
    """Asks the three functions at once, so that they are seen to agree."""

    def leads(self, sky, hour, state, order, after):
        self.assertEqual(why_not(sky, hour, state, order), "", (state, order))
        self.assertEqual(next_state(sky, hour, state, order), after, (state, order))
        self.assertIsInstance(next_state(sky, hour, state, order), tuple)
        self.assertIn(order, choices(sky, hour, state))

    def fails(self, sky, hour, state, order, why):
        self.assertEqual(why_not(sky, hour, state, order), why, (state, order))
        with self.assertRaises(Stopped) as caught:
            next_state(sky, hour, state, order)
        self.assertEqual((caught.exception.at, caught.exception.why), (0, why), (state, order))
        self.assertNotIn(order, choices(sky, hour, state))


class Costs(Asked):
    def test_up(self):
        self.leads(CALM, 0, (7, -8, 2, 3, 4), "up", (7, -8, 3, 2, 4))

    def test_level(self):
        self.leads(CALM, 0, (7, -8, 2, 3, 4), "level", (7, -8, 2, 3, 4))

    def test_down(self):
        self.leads(CALM, 0, (7, -8, 2, 3, 4), "down", (7, -8, 1, 3, 3))

    def test_each_order_from_each_height_with_each_load(self):
        for cool in ([], [9]):
            sky = ([], cool, LAYERS, [])
            for state in itertools.product((5,), (6,), range(6), range(7), range(7)):
                for order in ORDERS:
                    why, after = plain_step(sky, 9, state, order)
                    if why is None:
                        self.leads(sky, 9, state, order, after)
                    else:
                        self.fails(sky, 9, state, order, why)

    def test_level_needs_nothing(self):
        for height in range(6):
            self.leads(CALM, 3, (0, 0, height, 0, 0), "level", (0, 0, height, 0, 0))

    def test_to_the_bounds(self):
        self.leads(CALM, 3, (0, 0, 4, 1, 0), "up", (0, 0, 5, 0, 0))
        self.leads(CALM, 3, (0, 0, 1, 0, 1), "down", (0, 0, 0, 0, 0))


class WindAndCool(Asked):
    def test_the_wind_is_that_of_the_height_led_to(self):
        sky = ([], [], LAYERS, [])
        self.leads(sky, 0, (0, 0, 2, 1, 1), "up", (1, -1, 3, 0, 1))
        self.leads(sky, 0, (0, 0, 2, 1, 1), "level", (0, 0, 2, 1, 1))
        self.leads(sky, 0, (0, 0, 2, 1, 1), "down", (-1, 1, 1, 1, 0))

    def test_the_wind_is_that_of_the_hour(self):
        sky = ([], [], [(0, 1, 1, 0), (5, 1, 0, 2)], [])
        self.leads(sky, 4, (0, 0, 1, 0, 0), "level", (1, 0, 1, 0, 0))
        self.leads(sky, 5, (0, 0, 1, 0, 0), "level", (0, 2, 1, 0, 0))
        self.leads(sky, 6, (0, 0, 1, 0, 0), "level", (0, 2, 1, 0, 0))

    def test_a_cool_hour_takes_one_more(self):
        sky = ([], [4], LAYERS, [])
        self.leads(sky, 4, (0, 0, 3, 1, 1), "up", (1, -1, 3, 0, 1))
        self.leads(sky, 4, (0, 0, 3, 1, 1), "level", (0, 0, 2, 1, 1))
        self.leads(sky, 4, (0, 0, 3, 1, 1), "down", (-1, 1, 1, 1, 0))

    def test_a_cool_hour_never_takes_below_nought(self):
        sky = ([], [4], LAYERS, [])
        self.leads(sky, 4, (0, 0, 0, 1, 1), "level", (-2, 2, 0, 1, 1))
        self.leads(sky, 4, (0, 0, 0, 1, 1), "up", (-2, 2, 0, 0, 1))
        self.leads(sky, 4, (0, 0, 1, 1, 1), "down", (-2, 2, 0, 1, 0))
        self.leads(sky, 4, (0, 0, 1, 1, 1), "level", (-2, 2, 0, 1, 1))
        self.leads(sky, 4, (0, 0, 2, 1, 1), "down", (-2, 2, 0, 1, 0))

    def test_only_the_hour_itself_is_cool(self):
        sky = ([], [4, 4, 23, 0], [], [])
        for hour in range(24):
            height = 2 if hour in (0, 4, 23) else 3
            self.leads(sky, hour, (0, 0, 3, 0, 0), "level", (0, 0, height, 0, 0))

    def test_hours_0_and_23(self):
        sky = ([], [], [(0, 2, 1, 1), (23, 2, -2, 0)], [(0, 5, 0, 5, 2, 2, 24, 24)])
        self.leads(sky, 0, (0, 0, 2, 0, 0), "level", (1, 1, 2, 0, 0))
        self.leads(sky, 23, (0, 0, 2, 0, 0), "level", (-2, 0, 2, 0, 0))
        self.fails(sky, 23, (2, 5, 2, 0, 0), "level", "shut")
        self.leads(sky, 22, (-1, 4, 2, 0, 0), "level", (0, 5, 2, 0, 0))

    def test_places_far_out(self):
        sky = ([(-1998, 2000, 3)], [], [(0, 1, 2, -2), (0, 2, 2, 0)],
               [(1999, -2000, 2000, -1999, 1, 1, 5, 5)])
        self.leads(sky, 0, (1998, -1998, 1, 0, 0), "level", (2000, -2000, 1, 0, 0))
        self.fails(sky, 4, (1998, -1998, 1, 0, 0), "level", "shut")
        self.leads(sky, 4, (1996, -1998, 1, 0, 0), "level", (1998, -2000, 1, 0, 0))
        self.fails(sky, 4, (-2000, 2000, 2, 0, 0), "level", "hill")


class Reasons(Asked):
    everywhere = [(-9, -9, 9, 9, 0, 5, 0, 24)]

    def test_sacks(self):
        for height in range(5):
            self.fails(CALM, 0, (0, 0, height, 0, 6), "up", "sacks")

    def test_puffs(self):
        for height in range(1, 6):
            self.fails(CALM, 0, (0, 0, height, 6, 0), "down", "puffs")

    def test_high(self):
        self.fails(CALM, 0, (0, 0, 5, 1, 0), "up", "high")

    def test_a_cool_hour_does_not_help_against_high(self):
        self.fails(([], [0], [], []), 0, (0, 0, 5, 1, 0), "up", "high")

    def test_low(self):
        self.fails(CALM, 0, (0, 0, 0, 0, 1), "down", "low")
        self.fails(([], [0], [], []), 0, (0, 0, 0, 0, 1), "down", "low")

    def test_a_hill_too_high_just_as_high_and_lower(self):
        for top in range(1, 6):
            sky = ([(1, 2, top)], [], [(0, height, 1, 2) for height in range(6)], [])
            for height in range(6):
                if height < top:
                    self.fails(sky, 0, (0, 0, height, 0, 0), "level", "hill")
                else:
                    self.leads(sky, 0, (0, 0, height, 0, 0), "level", (1, 2, height, 0, 0))

    def test_the_hill_is_asked_with_the_height_led_to(self):
        sky = ([(0, 0, 3)], [6], [], [])
        self.leads(sky, 0, (0, 0, 2, 1, 1), "up", (0, 0, 3, 0, 1))
        self.fails(sky, 0, (0, 0, 3, 1, 1), "down", "hill")
        self.leads(sky, 0, (0, 0, 3, 1, 1), "level", (0, 0, 3, 1, 1))
        self.fails(sky, 6, (0, 0, 3, 1, 1), "level", "hill")
        self.leads(sky, 6, (0, 0, 3, 1, 1), "up", (0, 0, 3, 0, 1))
        self.fails(sky, 6, (0, 0, 2, 1, 1), "up", "hill")

    def test_the_hill_at_the_place_left_says_nothing(self):
        sky = ([(0, 0, 5)], [], [(0, 1, 1, 0)], [])
        self.leads(sky, 0, (0, 0, 1, 1, 1), "level", (1, 0, 1, 1, 1))

    def test_a_shutting_at_this_hour_at_the_next_and_behind(self):
        for first, last in ((4, 4), (5, 5), (6, 6), (5, 9), (0, 5), (6, 9), (0, 4)):
            sky = ([], [], [], [(0, 0, 0, 0, 2, 2, first, last)])
            if first <= 5 <= last:
                self.fails(sky, 4, (0, 0, 2, 1, 1), "level", "shut")
            else:
                self.leads(sky, 4, (0, 0, 2, 1, 1), "level", (0, 0, 2, 1, 1))

    def test_the_shutting_is_asked_with_the_state_led_to(self):
        sky = ([], [], [(0, 3, 1, 0)], [(1, 0, 1, 0, 3, 3, 1, 1)])
        self.fails(sky, 0, (0, 0, 2, 1, 1), "up", "shut")
        self.leads(sky, 0, (0, 0, 2, 1, 1), "level", (0, 0, 2, 1, 1))
        self.leads(sky, 0, (1, 0, 3, 1, 1), "level", (2, 0, 3, 1, 1))
        self.leads(sky, 0, (1, 0, 3, 1, 1), "down", (1, 0, 2, 1, 0))

    def test_a_state_that_may_not_stand_is_not_asked_about(self):
        sky = ([(0, 0, 5)], [], [(0, 2, 1, 1)], [(0, 0, 0, 0, 0, 5, 3, 3)])
        self.leads(sky, 3, (0, 0, 2, 0, 0), "level", (1, 1, 2, 0, 0))

    def test_sacks_ahead_of_all_others(self):
        self.fails(([(0, 0, 5)], [0], [], self.everywhere), 0, (0, 0, 5, 0, 0), "up", "sacks")
        self.fails(([(0, 0, 5)], [0], [], self.everywhere), 0, (0, 0, 2, 0, 0), "up", "sacks")
        self.fails(([], [], [], self.everywhere), 0, (0, 0, 2, 0, 0), "up", "sacks")

    def test_puffs_ahead_of_all_others(self):
        self.fails(([(0, 0, 5)], [], [], self.everywhere), 0, (0, 0, 0, 0, 0), "down", "puffs")
        self.fails(([(0, 0, 5)], [], [], self.everywhere), 0, (0, 0, 2, 0, 0), "down", "puffs")
        self.fails(([], [], [], self.everywhere), 0, (0, 0, 2, 0, 0), "down", "puffs")

    def test_high_ahead_of_hill_and_shut(self):
        self.fails(([], [], [], self.everywhere), 0, (0, 0, 5, 1, 0), "up", "high")
        self.fails(([(0, 0, 5)], [0, 1], [], self.everywhere), 0, (0, 0, 5, 1, 0), "up", "high")

    def test_low_ahead_of_hill_and_shut(self):
        self.fails(([(0, 0, 5)], [], [], self.everywhere), 0, (0, 0, 0, 0, 1), "down", "low")
        self.fails(([], [], [], self.everywhere), 0, (0, 0, 0, 0, 1), "down", "low")

    def test_hill_ahead_of_shut(self):
        sky = ([(0, 0, 3)], [], [], self.everywhere)
        self.fails(sky, 0, (0, 0, 2, 1, 1), "level", "hill")
        self.fails(sky, 0, (0, 0, 2, 1, 1), "up", "shut")

    def test_by_the_words_of_the_document(self):
        chance = random.Random(70)
        seen = set()
        for turn in range(500):
            hour = chance.choice((0, 5, 16, 23))
            sky, state = some_sky(chance, hour), some_state(chance)
            for order in ORDERS:
                why, after = plain_step(sky, hour, state, order)
                seen.add(why)
                if why is None:
                    self.leads(sky, hour, state, order, after)
                else:
                    self.fails(sky, hour, state, order, why)
        self.assertEqual(seen, {None, "sacks", "puffs", "high", "low", "hill", "shut"})

    def test_the_sky_stays_as_it_was(self):
        sky = copied(BARRED_SKY)
        for order in ORDERS:
            why_not(sky, 2, (0, 0, 5, 2, 2), order)
            try:
                next_state(sky, 2, (0, 0, 5, 2, 2), order)
            except Stopped:
                pass
        choices(sky, 2, (0, 0, 5, 2, 2))
        self.assertEqual(sky, BARRED_SKY)


class Choices(unittest.TestCase):
    def test_up_first_down_last(self):
        self.assertEqual(choices(CALM, 0, (0, 0, 2, 1, 1)), ["up", "level", "down"])

    def test_without_sacks_or_puffs(self):
        self.assertEqual(choices(CALM, 0, (0, 0, 2, 0, 1)), ["level", "down"])
        self.assertEqual(choices(CALM, 0, (0, 0, 2, 1, 0)), ["up", "level"])
        self.assertEqual(choices(CALM, 0, (0, 0, 2, 0, 0)), ["level"])

    def test_at_the_bounds(self):
        self.assertEqual(choices(CALM, 0, (0, 0, 5, 6, 6)), ["level", "down"])
        self.assertEqual(choices(CALM, 0, (0, 0, 0, 6, 6)), ["up", "level"])

    def test_some_barred_by_a_hill_or_a_shutting(self):
        self.assertEqual(choices(([(0, 0, 3)], [], [], []), 0, (0, 0, 2, 1, 1)), ["up"])
        sky = ([], [], [], [(0, 0, 0, 0, 2, 2, 1, 1)])
        self.assertEqual(choices(sky, 0, (0, 0, 2, 1, 1)), ["up", "down"])

    def test_none(self):
        for height in range(6):
            self.assertEqual(choices(WALLED_SKY, 3, (0, 0, height, 6, 6)), [])

    def test_a_told_list_that_is_changed(self):
        told = choices(CALM, 0, (0, 0, 2, 1, 1))
        told.remove("level")
        self.assertEqual(choices(CALM, 0, (0, 0, 2, 1, 1)), ["up", "level", "down"])


class Flown(unittest.TestCase):
    def stops(self, sky, hour, state, orders, at, why):
        with self.assertRaises(Stopped) as caught:
            flown(sky, hour, state, orders)
        self.assertEqual((caught.exception.at, caught.exception.why), (at, why), orders)

    def test_no_orders(self):
        for hour in (0, 24):
            self.assertEqual(flown(CALM, hour, (1, 2, 3, 4, 5), ()), [(1, 2, 3, 4, 5)])

    def test_no_orders_where_the_state_may_not_stand(self):
        self.assertEqual(flown(([(1, 2, 5)], [], [], []), 0, (1, 2, 3, 4, 5), ()), [(1, 2, 3, 4, 5)])

    def test_the_state_and_those_behind_each_order(self):
        sky = ([], [1], [(0, 2, 1, 0), (0, 3, 0, 2)], [])
        self.assertEqual(flown(sky, 0, (0, 0, 2, 2, 2), ("up", "level", "down", "up")), [
            (0, 0, 2, 2, 2), (0, 2, 3, 1, 2), (1, 2, 2, 1, 2), (1, 2, 1, 1, 1), (2, 2, 2, 0, 1)])

    def test_each_order_has_its_own_hour(self):
        winds = [(hour, 1, hour % 3, -(hour % 2)) for hour in range(24)]
        told = flown(([], [], winds, []), 16, (0, 0, 1, 0, 0), ("level",) * 8)
        self.assertEqual([state[:2] for state in told], [
            (0, 0), (1, 0), (3, -1), (3, -1), (4, -2), (6, -2), (6, -3), (7, -3), (9, -4)])

    def test_rows_that_can_be_flown(self):
        for many in range(6):
            found = all_flights(BARRED_SKY, 0, (0, 0, 2, 4, 4), many)
            self.assertNotEqual(found, [])
            for row, stood in found:
                self.assertEqual(flown(BARRED_SKY, 0, (0, 0, 2, 4, 4), row), stood, row)

    def test_eight_orders(self):
        row = ("up", "up", "up", "down", "down", "up", "down", "level")
        self.assertEqual(flown(CALM, 16, (0, 0, 2, 4, 3), row)[-1], (0, 0, 3, 0, 0))

    def test_stops_at_the_first(self):
        self.stops(CALM, 0, (0, 0, 2, 0, 1), ("up", "level", "down"), 0, "sacks")
        self.stops(CALM, 0, (0, 0, 2, 0, 1), ("up",), 0, "sacks")

    def test_stops_at_a_middle_one(self):
        self.stops(CALM, 0, (0, 0, 2, 1, 1), ("up", "up", "level"), 1, "sacks")
        self.stops(CALM, 0, (0, 0, 1, 1, 2), ("down", "level", "down", "up"), 2, "low")

    def test_stops_at_the_last(self):
        self.stops(CALM, 0, (0, 0, 3, 6, 6), ("up", "up", "up"), 2, "high")
        self.stops(CALM, 16, (0, 0, 3, 6, 0), ("level",) * 7 + ("down",), 7, "puffs")

    def test_stops_at_the_first_of_several_that_fail(self):
        self.stops(CALM, 0, (0, 0, 4, 2, 0), ("up", "up", "down"), 1, "high")

    def test_stops_for_a_hill_and_a_shutting(self):
        sky = ([(3, 0, 2)], [], [(0, 1, 1, 0)], [(0, 0, 9, 9, 3, 3, 4, 4)])
        self.stops(sky, 0, (0, 0, 1, 3, 3), ("level", "level", "level"), 2, "hill")
        self.stops(sky, 0, (0, 0, 2, 3, 3), ("level", "level", "level", "up"), 3, "shut")

    def test_by_the_words_of_the_document(self):
        chance = random.Random(71)
        for turn in range(300):
            hour = chance.choice((0, 7, 16))
            sky, state = some_sky(chance, hour), some_state(chance)
            row = tuple(chance.choice(ORDERS) for order in range(chance.randint(0, 8)))
            stood = plain_flown(sky, hour, state, row)
            if stood is not None:
                self.assertEqual(flown(sky, hour, state, row), stood)
                continue
            at = max(length for length in range(len(row))
                     if plain_flown(sky, hour, state, row[:length]) is not None)
            last = plain_flown(sky, hour, state, row[:at])[-1]
            self.stops(sky, hour, state, row, at, plain_step(sky, hour + at, last, row[at])[0])

    def test_a_told_list_that_is_changed(self):
        told = flown(CALM, 0, (0, 0, 2, 1, 1), ("up",))
        told.reverse()
        told.append("x")
        self.assertEqual(flown(CALM, 0, (0, 0, 2, 1, 1), ("up",)), [(0, 0, 2, 1, 1), (0, 0, 3, 0, 1)])

    def test_sky_and_row_stay_as_they_were(self):
        sky, row = copied(BARRED_SKY), ("up", "down", "level", "down", "down", "down")
        for state in ((0, 0, 2, 4, 4), (0, 0, 5, 4, 4)):
            try:
                flown(sky, 0, state, row)
            except Stopped:
                pass
        self.assertEqual(sky, BARRED_SKY)
        self.assertEqual(row, ("up", "down", "level", "down", "down", "down"))


if __name__ == "__main__":
    unittest.main()

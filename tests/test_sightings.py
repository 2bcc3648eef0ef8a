"""Sightings: [16] and the interface of ballastbook/sightings.py."""

import copy
import itertools
import random
import time
import unittest

from ballastbook.errors import NothingFits
from ballastbook.sightings import fits, possible
from tests.plain import (
    BARRED_SKY, CALM, WALLED_SKY, all_flights, copied, plain_fits, plain_possible, some_box,
    some_sky, some_state)

EVERYWHERE = (-2000, -2000, 2000, 2000, 0, 5)
# Height 1 leads east, height 2 north, height 3 south.
PARTED_SKY = ([], [], [(0, 1, 1, 0), (0, 2, 0, 1), (0, 3, 0, -1)], [])


def some_sightings(chance, first, last):
    return [(chance.randint(first, last),) + some_box(chance, 4) + (chance.random() < 0.5,)
            for number in range(chance.randint(0, 3))]


class Fits(unittest.TestCase):
    def test_no_sightings(self):
        self.assertIs(fits([], 3, (0, 0, 0, 0, 0)), True)

    def test_seen(self):
        sightings = [(3, -1, -1, 1, 1, 2, 3, True)]
        self.assertIs(fits(sightings, 3, (0, 0, 2, 0, 0)), True)
        self.assertIs(fits(sightings, 3, (2, 0, 2, 0, 0)), False)

    def test_unseen(self):
        sightings = [(3, -1, -1, 1, 1, 2, 3, False)]
        self.assertIs(fits(sightings, 3, (0, 0, 2, 0, 0)), False)
        self.assertIs(fits(sightings, 3, (2, 0, 2, 0, 0)), True)

    def test_sightings_of_other_hours_say_nothing(self):
        sightings = [(2, 5, 5, 5, 5, 0, 0, True), (4, 0, 0, 0, 0, 0, 5, False)]
        self.assertIs(fits(sightings, 3, (0, 0, 2, 0, 0)), True)
        self.assertIs(fits(sightings, 2, (0, 0, 2, 0, 0)), False)
        self.assertIs(fits(sightings, 4, (0, 0, 2, 0, 0)), False)

    def test_several_of_one_hour_in_any_order(self):
        sightings = [(3, -1, -1, 1, 1, 2, 3, True), (3, 0, 0, 0, 0, 2, 2, False),
                     (5, 9, 9, 9, 9, 0, 0, True)]
        for order in itertools.permutations(sightings):
            self.assertIs(fits(list(order), 3, (1, 0, 2, 0, 0)), True)
            self.assertIs(fits(list(order), 3, (0, 0, 3, 0, 0)), True)
            self.assertIs(fits(list(order), 3, (0, 0, 2, 0, 0)), False)
            self.assertIs(fits(list(order), 3, (2, 0, 2, 0, 0)), False)

    def test_each_number_at_and_beyond_its_bounds(self):
        middle = [0, 13, 2]
        for seen in (True, False):
            sightings = [(7, -3, 10, 4, 16, 1, 4, seen)]
            for at, low, high in ((0, -3, 4), (1, 10, 16), (2, 1, 4)):
                for number, holds in ((low - 1, False), (low, True), (high, True), (high + 1, False)):
                    spot = middle[:at] + [number] + middle[at + 1:]
                    self.assertIs(fits(sightings, 7, tuple(spot) + (3, 3)), holds == seen, spot)

    def test_what_is_left_says_nothing(self):
        for sacks, puffs in itertools.product((0, 6), repeat=2):
            self.assertIs(fits([(3, 0, 0, 0, 0, 2, 2, True)], 3, (0, 0, 2, sacks, puffs)), True)

    def test_hours_0_and_24(self):
        for hour in (0, 24):
            self.assertIs(fits([(hour,) + EVERYWHERE + (False,)], hour, (0, 0, 0, 0, 0)), False)
            self.assertIs(fits([(24 - hour,) + EVERYWHERE + (False,)], hour, (0, 0, 0, 0, 0)), True)

    def test_by_the_words_of_the_document(self):
        chance = random.Random(160)
        for turn in range(500):
            sightings, state = some_sightings(chance, 2, 4), some_state(chance)
            self.assertIs(fits(sightings, 3, state), plain_fits(sightings, 3, state), sightings)

    def test_the_list_stays_as_it_was(self):
        sightings = [(3, -1, -1, 1, 1, 2, 3, True), (2, 0, 0, 0, 0, 2, 2, False)]
        before = list(sightings)
        fits(sightings, 3, (0, 0, 2, 0, 0))
        self.assertEqual(sightings, before)


class Possible(unittest.TestCase):
    def nothing(self, hour, *asked):
        with self.assertRaises(NothingFits) as caught:
            possible(*asked)
        self.assertEqual(caught.exception.hour, hour, asked)

    def agree(self, *asked):
        """Asks, and looks whether trying all rows says the same; tells whether it was refused."""
        told = plain_possible(*asked)
        if isinstance(told, int):
            self.nothing(told, *asked)
        else:
            self.assertEqual(possible(*asked), told, asked)
        return isinstance(told, int)

    def test_until_the_hour_itself(self):
        for hour in (0, 24):
            self.assertEqual(possible(CALM, hour, (0, 0, 2, 1, 1), hour, []), [[(0, 0, 2, 1, 1)]])

    def test_no_sightings(self):
        self.assertEqual(possible(PARTED_SKY, 4, (0, 0, 2, 1, 1), 5, []), [
            [(0, 0, 2, 1, 1)], [(0, -1, 3, 0, 1), (0, 1, 2, 1, 1), (1, 0, 1, 1, 0)]])

    def test_no_sightings_are_all_states_that_lead_on(self):
        for height in range(6):
            self.assertFalse(self.agree(BARRED_SKY, 0, (0, 0, height, 3, 3), 5, []))

    def test_without_sightings_a_dead_end_is_left_out(self):
        # Down leads to (1, 0), and from there nothing but level into the shut box.
        sky = ([], [], [(0, 1, 1, 0)], [(1, 0, 9, 0, 0, 5, 2, 2)])
        self.assertEqual(possible(sky, 0, (0, 0, 2, 0, 1), 1, []),
                         [[(0, 0, 2, 0, 1)], [(0, 0, 2, 0, 1), (1, 0, 1, 0, 0)]])
        self.assertEqual(possible(sky, 0, (0, 0, 2, 0, 1), 2, []),
                         [[(0, 0, 2, 0, 1)], [(0, 0, 2, 0, 1)], [(0, 0, 2, 0, 1)]])

    def test_each_once(self):
        told = possible(CALM, 0, (0, 0, 2, 2, 2), 4, [])
        for at, found in enumerate(told):
            ends = {stood[-1] for row, stood in all_flights(CALM, 0, (0, 0, 2, 2, 2), at)}
            self.assertEqual(found, sorted(ends))

    def test_beaten_states_are_told_too(self):
        self.assertIn((0, 0, 2, 0, 0), possible(CALM, 0, (0, 0, 2, 1, 1), 2, [])[2])

    def test_a_sighting_of_the_first_hour(self):
        asked = (PARTED_SKY, 4, (0, 0, 2, 1, 1), 6)
        every = possible(*asked, [])
        self.assertEqual(possible(*asked, [(4, 0, 0, 0, 0, 2, 2, True)]), every)
        self.assertEqual(possible(*asked, [(4, 1, 0, 1, 0, 2, 2, False)]), every)
        self.nothing(4, *asked, [(4, 0, 0, 0, 0, 2, 2, False)])
        self.nothing(4, *asked, [(4, 1, 0, 1, 0, 2, 2, True)])
        self.nothing(4, PARTED_SKY, 4, (0, 0, 2, 1, 1), 4, [(4, 0, 0, 0, 0, 3, 3, True)])

    def test_a_sighting_of_the_last_hour_bars_earlier_ones_too(self):
        told = possible(PARTED_SKY, 4, (0, 0, 2, 1, 1), 6, [(6, 2, 0, 2, 0, 0, 5, True)])
        self.assertEqual(told, [[(0, 0, 2, 1, 1)], [(1, 0, 1, 1, 0)], [(2, 0, 1, 1, 0)]])

    def test_a_sighting_of_an_hour_between(self):
        told = possible(PARTED_SKY, 4, (0, 0, 2, 1, 1), 6, [(5, 0, 0, 2000, 1, 0, 5, False)])
        self.assertEqual(told, [[(0, 0, 2, 1, 1)], [(0, -1, 3, 0, 1)],
                                [(0, -2, 3, 0, 1), (0, 0, 2, 0, 0)]])

    def test_a_sighting_between_bars_later_and_earlier_ones(self):
        for at in (5, 6, 7):
            for seen in (True, False):
                self.agree(PARTED_SKY, 4, (0, 0, 2, 2, 2), 8, [(at, 1, -1, 3, 1, 0, 3, seen)])

    def test_alike_boxes_seen_and_unseen(self):
        for at in range(4, 8):
            box = (-3, -3, 3, 3, 0, 5)
            sightings = [(at,) + box + (True,), (at,) + box + (False,)]
            self.nothing(at, PARTED_SKY, 4, (0, 0, 2, 1, 1), 7, sightings)

    def test_the_first_hour_up_to_which_none_fits(self):
        # Far to the east at hour 8 can't be, but up to hour 7 flights fit.
        self.nothing(8, PARTED_SKY, 4, (0, 0, 2, 1, 1), 9, [(8, 9, 0, 9, 0, 0, 5, True)])
        # Each alone could be, not both: the later one tells the hour.
        both = [(5, 1, 0, 1, 0, 1, 1, True), (7, 0, 3, 0, 3, 2, 2, True)]
        self.assertFalse(self.agree(PARTED_SKY, 4, (0, 0, 2, 1, 1), 9, both[:1]))
        self.assertFalse(self.agree(PARTED_SKY, 4, (0, 0, 2, 1, 1), 9, both[1:]))
        self.nothing(7, PARTED_SKY, 4, (0, 0, 2, 1, 1), 9, both)
        self.nothing(7, PARTED_SKY, 4, (0, 0, 2, 1, 1), 9, both[::-1])

    def test_the_first_of_several_refusals(self):
        sightings = [(8,) + EVERYWHERE + (False,), (6,) + EVERYWHERE + (False,)]
        self.nothing(6, PARTED_SKY, 4, (0, 0, 2, 1, 1), 9, sightings)

    def test_no_flight_because_of_hills(self):
        self.nothing(1, WALLED_SKY, 0, (0, 0, 2, 6, 6), 1, [])
        self.nothing(1, WALLED_SKY, 0, (0, 0, 2, 6, 6), 8, [])
        self.assertEqual(possible(WALLED_SKY, 0, (0, 0, 2, 6, 6), 0, []), [[(0, 0, 2, 6, 6)]])
        self.nothing(3, ([(3, 0, 4)], [], [(0, 1, 1, 0)], []), 0, (0, 0, 1, 0, 0), 5, [])

    def test_no_flight_because_of_shut_air(self):
        for first in range(1, 9):
            sky = ([], [], [], [EVERYWHERE + (first, first)])
            self.nothing(first, sky, 0, (0, 0, 2, 6, 6), 8, [])
        sky = ([], [], [], [EVERYWHERE + (0, 0), EVERYWHERE + (9, 24)])
        self.assertEqual(len(possible(sky, 0, (0, 0, 2, 6, 6), 8, [])), 9)

    def test_in_any_order_and_told_twice(self):
        sightings = [(5, -1, -1, 1, 1, 0, 5, True), (6, 0, 0, 0, 2, 0, 5, False),
                     (7, -9, -9, 9, 9, 1, 3, True)]
        asked = (PARTED_SKY, 4, (0, 0, 2, 2, 2), 8)
        before = possible(*asked, sightings)
        for order in itertools.permutations(sightings):
            self.assertEqual(possible(*asked, list(order)), before)
            self.assertEqual(possible(*asked, list(order) + sightings), before)

    def test_sightings_of_hours_outside_say_nothing(self):
        asked = (PARTED_SKY, 4, (0, 0, 2, 2, 2), 7)
        before = possible(*asked, [])
        for hour in (0, 3, 8, 24):
            self.assertEqual(possible(*asked, [(hour,) + EVERYWHERE + (False,)]), before, hour)
        for hour in (4, 5, 6, 7):
            self.nothing(hour, *asked, [(hour,) + EVERYWHERE + (False,)])

    def test_the_last_hour_of_all(self):
        self.assertEqual(possible(CALM, 23, (0, 0, 0, 0, 0), 24, [(24, 0, 0, 0, 0, 0, 0, True)]),
                         [[(0, 0, 0, 0, 0)], [(0, 0, 0, 0, 0)]])
        self.nothing(24, CALM, 23, (0, 0, 0, 0, 0), 24, [(24, 0, 0, 0, 0, 0, 0, False)])

    def test_where_the_state_may_not_stand(self):
        sky = ([(0, 0, 5)], [], [(0, 1, 1, 0)], [(0, 0, 0, 0, 0, 5, 4, 4)])
        self.assertEqual(possible(sky, 4, (0, 0, 1, 0, 0), 5, []), [[(0, 0, 1, 0, 0)], [(1, 0, 1, 0, 0)]])

    def test_against_trying_all_rows(self):
        chance = random.Random(161)
        refused = []
        for turn in range(150):
            hour = chance.choice((0, 3, 20))
            until = hour + chance.randint(0, 4)
            sky, state = some_sky(chance, hour), some_state(chance)
            sightings = some_sightings(chance, max(hour - 1, 0), min(until + 1, 24))
            refused.append(self.agree(sky, hour, state, until, sightings))
        self.assertGreater(min(refused.count(True), refused.count(False)), 20)

    def test_against_trying_all_rows_for_eight_hours(self):
        chance = random.Random(162)
        for turn in range(5):
            state = some_state(chance, most=2)
            self.agree(some_sky(chance, 16), 16, state, 24, some_sightings(chance, 17, 24)[:1])

    def test_the_true_flight_is_always_possible(self):
        chance = random.Random(163)
        for turn in range(60):
            hour = chance.choice((0, 5, 18))
            sky, state = some_sky(chance, hour), some_state(chance)
            flights = all_flights(sky, hour, state, 5)
            if not flights:
                continue
            row, stood = chance.choice(flights)
            sightings = []
            for number in range(6):
                at, box = chance.randint(0, 5), some_box(chance, 4)
                x1, y1, x2, y2, low, high = box
                x, y, height = stood[at][:3]
                seen = x1 <= x <= x2 and y1 <= y <= y2 and low <= height <= high
                sightings.append((hour + at,) + box + (seen,))
            told = possible(sky, hour, state, hour + 5, sightings)
            for at, true in enumerate(stood):
                self.assertIn(true, told[at], (sky, hour, state, row, sightings))

    def test_told_lists_that_are_changed(self):
        asked = (PARTED_SKY, 4, (0, 0, 2, 1, 1), 7, [(5, 1, 0, 1, 0, 0, 5, False)])
        told = possible(*asked)
        before = copy.deepcopy(told)
        told[0].clear()
        told[1].append("x")
        told.pop()
        self.assertEqual(possible(*asked), before)

    def test_sky_and_sightings_stay_as_they_were(self):
        sky = copied(BARRED_SKY)
        sightings = [(5, 9, 9, 9, 9, 0, 5, False), (1, -9, -9, 9, 9, 0, 5, True)]
        before = list(sightings)
        possible(sky, 0, (0, 0, 2, 3, 3), 5, sightings)
        self.nothing(0, sky, 0, (0, 0, 2, 3, 3), 5, [(0,) + EVERYWHERE + (False,)])
        self.assertEqual(sky, BARRED_SKY)
        self.assertEqual(sightings, before)

    def test_soon(self):
        begun = time.perf_counter()
        for height in range(6):
            possible(BARRED_SKY, 0, (0, 0, height, 6, 6), 8, [])
        self.assertLess(time.perf_counter() - begun, 30)


if __name__ == "__main__":
    unittest.main()

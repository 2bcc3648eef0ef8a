"""Meetings: [17] and the interface of ballastbook/meetings.py."""

import random
import time
import unittest

from ballastbook.meetings import first_meeting
from tests.plain import (
    BARRED_SKY, CALM, WALLED_SKY, all_flights, copied, some_sky, some_state)

# Height 1 leads east, height 2 north, height 3 south, height 4 west.
PARTED_SKY = ([], [], [(0, 1, 1, 0), (0, 2, 0, 1), (0, 3, 0, -1), (0, 4, -1, 0)], [])


def plain_meeting(sky, hour, one, other, many):
    """The first meeting, by the words of [17], out of all rows of both."""
    for length in range(many + 1):
        mine, theirs = ({stood[-1][:2] for row, stood in all_flights(sky, hour, state, length)}
                        for state in (one, other))
        if mine & theirs:
            return (hour + length, sorted(mine & theirs))
    return None


class FirstMeeting(unittest.TestCase):
    def agree(self, *asked):
        told = first_meeting(*asked)
        self.assertEqual(told, plain_meeting(*asked), asked)
        return told

    def test_two_over_one_place(self):
        for sky in (CALM, PARTED_SKY, BARRED_SKY, WALLED_SKY):
            for hour, many in ((0, 0), (0, 3), (16, 8), (24, 0)):
                told = first_meeting(sky, hour, (0, 0, 1, 0, 6), (0, 0, 5, 2, 1), many)
                self.assertEqual(told, (hour, [(0, 0)]))

    def test_two_over_one_place_where_they_may_not_stand(self):
        sky = ([(2, 2, 5)], [], [], [(2, 2, 2, 2, 0, 5, 3, 9)])
        self.assertEqual(first_meeting(sky, 3, (2, 2, 1, 0, 0), (2, 2, 0, 0, 0), 4), (3, [(2, 2)]))

    def test_many_0(self):
        self.assertIsNone(first_meeting(PARTED_SKY, 0, (0, 0, 1, 6, 6), (1, 0, 1, 6, 6), 0))
        self.assertIsNone(first_meeting(PARTED_SKY, 24, (0, 0, 1, 6, 6), (0, 1, 1, 6, 6), 0))

    def test_after_some_hours(self):
        one, other = (0, 0, 1, 0, 0), (6, 0, 4, 0, 0)
        for many in range(9):
            told = (13, [(3, 0)]) if many >= 3 else None
            self.assertEqual(first_meeting(PARTED_SKY, 10, one, other, many), told, many)

    def test_at_unlike_heights(self):
        # The one stays where no wind blows, the other comes along above it.
        self.assertEqual(first_meeting(PARTED_SKY, 0, (2, 0, 0, 0, 0), (0, 0, 1, 0, 0), 8),
                         (2, [(2, 0)]))
        self.assertEqual(first_meeting(PARTED_SKY, 0, (0, 3, 5, 0, 0), (0, 0, 2, 0, 0), 8),
                         (3, [(0, 3)]))

    def test_at_several_places_rising_each_once(self):
        # The one goes east or north, the other west or south; each place in several ways.
        self.assertEqual(self.agree(PARTED_SKY, 0, (0, 0, 2, 3, 3), (2, 2, 3, 3, 3), 5),
                         (2, [(0, 2), (1, 1), (2, 0)]))
        self.assertEqual(self.agree(PARTED_SKY, 4, (-3, 0, 2, 3, 3), (2, 4, 3, 3, 3), 5),
                         (9, [(-2, 3), (-2, 4), (-1, 2), (-1, 3), (0, 1), (0, 2), (1, 0), (1, 1)]))

    def test_all_places_by_hand(self):
        # West, north, south and east.
        sky = ([], [], [(0, 1, -1, 0), (0, 2, 0, 1), (0, 3, 0, -1), (0, 4, 1, 0)], [])
        self.assertEqual(first_meeting(sky, 5, (0, 0, 2, 1, 1), (0, 2, 3, 0, 0), 1), (6, [(0, 1)]))
        self.assertEqual(first_meeting(sky, 5, (-2, 0, 3, 1, 1), (0, 0, 2, 1, 1), 1), (6, [(-1, 0)]))
        self.assertEqual(first_meeting(sky, 5, (1, -1, 2, 1, 1), (0, 0, 3, 1, 1), 1),
                         (6, [(0, -1), (1, 0)]))

    def test_only_flights_of_as_many_orders_meet(self):
        # Both pass (1, 0), but at unlike hours.
        sky = ([], [], [(0, 1, 1, 0)], [])
        self.assertIsNone(first_meeting(sky, 0, (0, 0, 1, 0, 0), (-1, 0, 1, 0, 0), 8))

    def test_none(self):
        self.assertIsNone(first_meeting(CALM, 0, (0, 0, 1, 6, 6), (1, 0, 1, 6, 6), 8))
        self.assertIsNone(first_meeting(PARTED_SKY, 0, (-2000, 0, 1, 6, 6), (2000, 0, 4, 6, 6), 8))
        self.assertIsNone(first_meeting(PARTED_SKY, 0, (0, 0, 0, 0, 6), (5, 5, 5, 6, 0), 8))

    def test_with_itself(self):
        for state in ((0, 0, 0, 0, 0), (3, -4, 2, 6, 6)):
            self.assertEqual(first_meeting(BARRED_SKY, 3, state, state, 5), (3, [state[:2]]))

    def test_hills_in_the_way(self):
        one, other = (0, 0, 1, 0, 0), (4, 0, 4, 0, 0)
        for spot, told in (((2, 0), None), ((1, 0), None), ((3, 0), (2, [(2, 0)]))):
            sky = ([spot + (2,)],) + PARTED_SKY[1:]
            self.assertEqual(first_meeting(sky, 0, one, other, 8), told, spot)

    def test_shut_air_in_the_way(self):
        one, other = (0, 0, 1, 0, 0), (4, 0, 4, 0, 0)
        for first, last, told in ((2, 2, None), (0, 1, (2, [(2, 0)])), (3, 24, (2, [(2, 0)]))):
            sky = PARTED_SKY[:3] + ([(2, 0, 2, 0, 0, 1, first, last)],)
            self.assertEqual(first_meeting(sky, 0, one, other, 8), told, (first, last))

    def test_nothing_can_be_flown(self):
        self.assertIsNone(first_meeting(WALLED_SKY, 0, (0, 0, 2, 6, 6), (1, 1, 5, 6, 6), 8))

    def test_a_load_that_is_needed(self):
        # With a sack it comes up into the wind that leads north, without one it doesn't.
        self.assertEqual(first_meeting(PARTED_SKY, 0, (0, 0, 1, 1, 0), (0, 1, 0, 0, 0), 8), (1, [(0, 1)]))
        self.assertIsNone(first_meeting(PARTED_SKY, 0, (0, 0, 1, 0, 0), (0, 1, 0, 0, 0), 8))

    def test_the_two_exchanged(self):
        chance = random.Random(180)
        for turn in range(60):
            hour = chance.choice((0, 5, 18))
            sky, one, other = some_sky(chance, hour), some_state(chance), some_state(chance)
            self.assertEqual(first_meeting(sky, hour, one, other, 6),
                             first_meeting(sky, hour, other, one, 6))

    def test_against_trying_all_rows(self):
        chance = random.Random(181)
        found = []
        for turn in range(300):
            hour = chance.choice((0, 5, 19))
            sky, one, other = some_sky(chance, hour), some_state(chance), some_state(chance)
            other = (other[0] + chance.randint(-3, 3), other[1] + chance.randint(-3, 3)) + other[2:]
            found.append(self.agree(sky, hour, one, other, chance.randint(0, 5)))
        self.assertGreater(found.count(None), 10)
        self.assertGreater(len([told for told in found if told and len(told[1]) > 1]), 5)

    def test_against_trying_all_rows_for_eight_hours(self):
        chance = random.Random(182)
        for turn in range(3):
            one, other = some_state(chance, most=2), some_state(chance, most=2)
            self.agree(some_sky(chance, 16), 16, one, (other[0] + 9, other[1] - 6) + other[2:], 8)

    def test_kinds(self):
        told = first_meeting(PARTED_SKY, 10, (0, 0, 1, 0, 0), (6, 0, 4, 0, 0), 8)
        self.assertIsInstance(told, tuple)
        self.assertIsInstance(told[1], list)
        self.assertIsInstance(told[1][0], tuple)

    def test_a_told_list_that_is_changed(self):
        asked = (PARTED_SKY, 10, (0, 0, 1, 0, 0), (6, 0, 4, 0, 0), 8)
        told = first_meeting(*asked)
        told[1].append("x")
        told[1].reverse()
        self.assertEqual(first_meeting(*asked), (13, [(3, 0)]))

    def test_the_sky_stays_as_it_was(self):
        sky = copied(BARRED_SKY)
        first_meeting(sky, 0, (0, 0, 2, 3, 3), (9, 9, 2, 3, 3), 8)
        self.assertEqual(sky, BARRED_SKY)

    def test_soon(self):
        begun = time.perf_counter()
        for height in range(6):
            first_meeting(BARRED_SKY, 0, (0, 0, height, 6, 6), (50, 50, height, 6, 6), 8)
        self.assertLess(time.perf_counter() - begun, 30)


if __name__ == "__main__":
    unittest.main()

"""The air: [4], [5], [6] and the interface of ballastbook/air.py."""

import itertools
import random
import unittest

from ballastbook.air import closures, may_stand, shut_at
from tests.plain import copied, plain_ground, plain_shut, some_box, some_sky, some_state

EVERYWHERE = (-2000, -2000, 2000, 2000, 0, 5)


def some_shuts(chance):
    shuts = []
    for number in range(chance.randint(0, 5)):
        first = chance.randint(0, 24)
        shuts.append(some_box(chance, 2) + (first, chance.randint(first, min(first + 5, 24))))
    return shuts


class ShutAt(unittest.TestCase):
    def test_nothing_shut(self):
        for hour in (0, 12, 24):
            self.assertIs(shut_at([], hour, 0, 0, 0), False)

    def test_each_hour_around_a_shutting(self):
        shuts = [(-1, -1, 1, 1, 1, 3, 5, 8)]
        for hour in range(25):
            self.assertIs(shut_at(shuts, hour, 0, 0, 2), hour in (5, 6, 7, 8), hour)

    def test_a_shutting_of_one_hour(self):
        shuts = [(0, 0, 0, 0, 2, 2, 7, 7)]
        for hour in range(25):
            self.assertIs(shut_at(shuts, hour, 0, 0, 2), hour == 7, hour)

    def test_the_first_and_the_last_hour_of_all(self):
        for hour in range(25):
            self.assertIs(shut_at([EVERYWHERE + (0, 0)], hour, 0, 0, 0), hour == 0, hour)
            self.assertIs(shut_at([EVERYWHERE + (24, 24)], hour, 0, 0, 0), hour == 24, hour)
            self.assertIs(shut_at([EVERYWHERE + (0, 24)], hour, 0, 0, 0), True, hour)

    def test_each_number_at_and_beyond_its_bounds(self):
        shuts = [(-3, 10, 4, 16, 1, 4, 2, 9)]
        middle = [0, 13, 2]
        for at, low, high in ((0, -3, 4), (1, 10, 16), (2, 1, 4)):
            for number, answer in ((low - 1, False), (low, True), (high, True), (high + 1, False)):
                spot = middle[:at] + [number] + middle[at + 1:]
                self.assertIs(shut_at(shuts, 5, *spot), answer, spot)

    def test_all_hours_and_numbers_must_hold_of_one_shutting(self):
        shuts = [(0, 0, 1, 1, 0, 1, 3, 4), (5, 5, 6, 6, 4, 5, 8, 9)]
        self.assertIs(shut_at(shuts, 3, 0, 0, 0), True)
        self.assertIs(shut_at(shuts, 8, 5, 5, 4), True)
        for hour, x, y, height in ((8, 0, 0, 0), (3, 5, 5, 4), (3, 0, 5, 0), (3, 0, 0, 4),
                                   (8, 5, 0, 4), (8, 5, 5, 0), (6, 0, 0, 0)):
            self.assertIs(shut_at(shuts, hour, x, y, height), False, (hour, x, y, height))

    def test_several_over_one_another_in_any_order(self):
        shuts = [(0, 0, 4, 4, 0, 5, 2, 6), (2, 2, 6, 6, 0, 5, 4, 9), (3, 3, 3, 3, 1, 1, 12, 12)]
        for order in itertools.permutations(shuts):
            hours = [hour for hour in range(25) if shut_at(list(order), hour, 3, 3, 1)]
            self.assertEqual(hours, [2, 3, 4, 5, 6, 7, 8, 9, 12])
            hours = [hour for hour in range(25) if shut_at(list(order), hour, 5, 5, 1)]
            self.assertEqual(hours, [4, 5, 6, 7, 8, 9])
            hours = [hour for hour in range(25) if shut_at(list(order), hour, 1, 1, 1)]
            self.assertEqual(hours, [2, 3, 4, 5, 6])

    def test_far_away(self):
        shuts = [(-2000, 1999, -1999, 2000, 0, 0, 0, 24)]
        self.assertIs(shut_at(shuts, 0, -2000, 2000, 0), True)
        self.assertIs(shut_at(shuts, 24, -1998, 2000, 0), False)
        self.assertIs(shut_at(shuts, 24, 2000, -2000, 0), False)

    def test_by_the_words_of_the_document(self):
        chance = random.Random(40)
        for turn in range(100):
            shuts = some_shuts(chance)
            for hour in range(25):
                x, y, height = chance.randint(-3, 3), chance.randint(-3, 3), chance.randint(0, 5)
                self.assertIs(shut_at(shuts, hour, x, y, height),
                              plain_shut(shuts, hour, x, y, height), (shuts, hour, x, y, height))

    def test_the_list_stays_as_it_was(self):
        shuts = [(0, 0, 4, 4, 0, 5, 6, 9), (0, 0, 0, 0, 0, 0, 0, 24)]
        before = list(shuts)
        shut_at(shuts, 3, 0, 0, 0)
        self.assertEqual(shuts, before)


class Closures(unittest.TestCase):
    def at_place(self, *hours):
        return [(0, 0, 2, 2, 1, 3, first, last) for first, last in hours]

    def told(self, *hours):
        return closures(self.at_place(*hours), 1, 1, 2)

    def test_none(self):
        self.assertEqual(closures([], 0, 0, 0), [])

    def test_shuttings_that_do_not_hold_the_spot(self):
        shuts = self.at_place((0, 24))
        for x, y, height in ((-1, 1, 2), (3, 1, 2), (1, -1, 2), (1, 3, 2), (1, 1, 0), (1, 1, 4)):
            self.assertEqual(closures(shuts, x, y, height), [], (x, y, height))
        for x, y, height in ((0, 0, 1), (2, 2, 3), (0, 2, 3)):
            self.assertEqual(closures(shuts, x, y, height), [(0, 24)], (x, y, height))

    def test_single_hours(self):
        for hour in range(25):
            self.assertEqual(self.told((hour, hour)), [(hour, hour)])
        self.assertEqual(self.told((0, 0), (24, 24), (9, 9)), [(0, 0), (9, 9), (24, 24)])

    def test_a_whole_day(self):
        self.assertEqual(self.told((0, 24)), [(0, 24)])
        self.assertEqual(self.told((0, 11), (12, 24)), [(0, 24)])
        self.assertEqual(self.told(*[(hour, hour) for hour in range(25)]), [(0, 24)])

    def test_no_hour_beyond_the_day(self):
        self.assertEqual(self.told((20, 26)), [(20, 24)])

    def test_stretches_that_touch_are_one(self):
        self.assertEqual(self.told((3, 5), (6, 9)), [(3, 9)])
        self.assertEqual(self.told((6, 9), (3, 5)), [(3, 9)])
        self.assertEqual(self.told((3, 5), (6, 6), (7, 9)), [(3, 9)])

    def test_stretches_over_one_another(self):
        self.assertEqual(self.told((3, 7), (5, 9)), [(3, 9)])
        self.assertEqual(self.told((3, 9), (5, 6)), [(3, 9)])
        self.assertEqual(self.told((3, 5), (5, 9)), [(3, 9)])
        self.assertEqual(self.told((3, 5), (3, 5)), [(3, 5)])

    def test_an_hour_between(self):
        self.assertEqual(self.told((3, 5), (7, 9)), [(3, 5), (7, 9)])
        self.assertEqual(self.told((7, 9), (3, 5)), [(3, 5), (7, 9)])

    def test_another_box_does_not_join_them(self):
        shuts = self.at_place((3, 5), (7, 9)) + [(5, 5, 6, 6, 0, 5, 6, 6)]
        self.assertEqual(closures(shuts, 1, 1, 2), [(3, 5), (7, 9)])
        self.assertEqual(closures(shuts, 5, 6, 0), [(6, 6)])

    def test_by_the_hours(self):
        chance = random.Random(41)
        for turn in range(300):
            shuts = some_shuts(chance)
            x, y, height = chance.randint(-2, 2), chance.randint(-2, 2), chance.randint(0, 5)
            told = closures(shuts, x, y, height)
            hours = [hour for first, last in told for hour in range(first, last + 1)]
            self.assertEqual(hours, [hour for hour in range(25)
                                     if plain_shut(shuts, hour, x, y, height)], shuts)
            for one, other in zip(told, told[1:]):
                self.assertGreater(other[0], one[1] + 1, shuts)

    def test_a_list_of_pairs(self):
        told = self.told((3, 5), (7, 9))
        self.assertIsInstance(told, list)
        self.assertEqual([type(pair) for pair in told], [tuple, tuple])

    def test_a_told_list_that_is_changed(self):
        for shuts in ([], self.at_place((3, 5), (7, 9))):
            told = closures(shuts, 1, 1, 2)
            before = list(told)
            told.insert(0, "x")
            self.assertEqual(closures(shuts, 1, 1, 2), before)

    def test_the_list_stays_as_it_was(self):
        shuts = self.at_place((7, 9), (3, 5), (4, 4))
        before = list(shuts)
        closures(shuts, 1, 1, 2)
        self.assertEqual(shuts, before)


class MayStand(unittest.TestCase):
    sky = ([(1, 2, 3), (1, 2, 2), (5, 5, 5)], [4], [(0, 3, 1, 1)], [(0, 0, 4, 4, 3, 4, 6, 8)])

    def test_below_at_and_above_the_ground(self):
        for height in range(6):
            self.assertIs(may_stand(self.sky, 0, (1, 2, height, 0, 0)), height >= 3, height)
            self.assertIs(may_stand(self.sky, 0, (5, 5, height, 6, 6)), height == 5, height)
            self.assertIs(may_stand(self.sky, 0, (2, 1, height, 6, 6)), True, height)

    def test_in_a_box_around_its_hours(self):
        for hour in range(25):
            self.assertIs(may_stand(self.sky, hour, (1, 2, 4, 1, 1)), hour not in (6, 7, 8), hour)

    def test_around_a_shut_box(self):
        for hour in (6, 8):
            self.assertIs(may_stand(self.sky, hour, (1, 2, 5, 1, 1)), True)
            self.assertIs(may_stand(self.sky, hour, (0, 0, 2, 1, 1)), True)
            self.assertIs(may_stand(self.sky, hour, (4, 4, 3, 1, 1)), False)
            self.assertIs(may_stand(self.sky, hour, (5, 4, 3, 1, 1)), True)
            self.assertIs(may_stand(self.sky, hour, (4, -1, 3, 1, 1)), True)

    def test_below_the_ground_in_a_shut_box(self):
        sky = ([(1, 2, 4)], [], [], [(0, 0, 4, 4, 3, 4, 6, 8)])
        self.assertIs(may_stand(sky, 6, (1, 2, 3, 1, 1)), False)
        self.assertIs(may_stand(sky, 5, (1, 2, 3, 1, 1)), False)
        self.assertIs(may_stand(sky, 6, (1, 2, 4, 1, 1)), False)
        self.assertIs(may_stand(sky, 5, (1, 2, 4, 1, 1)), True)
        self.assertIs(may_stand(sky, 9, (1, 2, 4, 1, 1)), True)

    def test_what_is_left_says_nothing(self):
        for sacks, puffs in itertools.product((0, 3, 6), repeat=2):
            self.assertIs(may_stand(self.sky, 7, (1, 2, 4, sacks, puffs)), False)
            self.assertIs(may_stand(self.sky, 7, (1, 2, 5, sacks, puffs)), True)

    def test_by_the_words_of_the_document(self):
        chance = random.Random(42)
        for turn in range(400):
            sky, state = some_sky(chance), some_state(chance)
            x, y, height, sacks, puffs = state
            for hour in (0, 1, 4, 8):
                self.assertIs(may_stand(sky, hour, state),
                              height >= plain_ground(sky[0], x, y)
                              and not plain_shut(sky[3], hour, x, y, height), (sky, hour, state))

    def test_the_sky_stays_as_it_was(self):
        sky = copied(self.sky)
        for hour in (5, 6):
            may_stand(sky, hour, (1, 2, 4, 1, 1))
        self.assertEqual(sky, self.sky)


if __name__ == "__main__":
    unittest.main()

"""The ground: [4] and the interface of ballastbook/ground.py."""

import itertools
import unittest

from ballastbook.ground import ground_at, on_ground


class GroundAt(unittest.TestCase):
    def test_no_hill(self):
        for x, y in ((0, 0), (-2000, 2000), (5, -5)):
            self.assertEqual(ground_at([], x, y), 0)

    def test_one_hill(self):
        for top in range(1, 6):
            self.assertEqual(ground_at([(3, -4, top)], 3, -4), top)

    def test_far_away(self):
        hills = [(-2000, 2000, 4), (2000, -2000, 5)]
        self.assertEqual(ground_at(hills, -2000, 2000), 4)
        self.assertEqual(ground_at(hills, 2000, -2000), 5)
        self.assertEqual(ground_at(hills, 2000, 2000), 0)

    def test_several_on_one_place_in_any_order(self):
        hills = [(1, 1, 2), (1, 1, 5), (1, 1, 3), (1, 1, 1)]
        for order in itertools.permutations(hills):
            self.assertEqual(ground_at(list(order), 1, 1), 5)
        for order in itertools.permutations(hills[2:]):
            self.assertEqual(ground_at(list(order), 1, 1), 3)

    def test_one_hill_told_twice(self):
        self.assertEqual(ground_at([(1, 1, 3), (1, 1, 3)], 1, 1), 3)

    def test_hills_at_near_places_only(self):
        near = [(dx, dy, 4) for dx, dy in itertools.product((-1, 0, 1), repeat=2)
                if (dx, dy) != (0, 0)]
        self.assertEqual(ground_at(near, 0, 0), 0)
        self.assertEqual(ground_at(near + [(0, 0, 1)], 0, 0), 1)
        self.assertEqual(ground_at([(0, 0, 1)] + near, 0, 0), 1)

    def test_x_and_y_are_not_mixed_up(self):
        hills = [(2, 7, 3)]
        self.assertEqual(ground_at(hills, 2, 7), 3)
        for x, y in ((7, 2), (-2, 7), (2, -7), (2, 2), (7, 7)):
            self.assertEqual(ground_at(hills, x, y), 0)

    def test_the_list_stays_as_it_was(self):
        hills = [(1, 1, 2), (0, 0, 5), (1, 1, 3)]
        before = list(hills)
        ground_at(hills, 1, 1)
        self.assertEqual(hills, before)

    def test_a_list_changed_behind_a_call(self):
        hills = [(1, 1, 2)]
        self.assertEqual(ground_at(hills, 1, 1), 2)
        hills.append((1, 1, 4))
        self.assertEqual(ground_at(hills, 1, 1), 4)
        self.assertEqual(ground_at([(1, 1, 2)], 1, 1), 2)


class OnGround(unittest.TestCase):
    hills = [(1, -2, 2), (1, -2, 4), (1, -2, 3), (5, 5, 1)]

    def test_each_height_at_a_hill(self):
        for height in range(6):
            self.assertIs(on_ground(self.hills, (1, -2, height, 3, 3)), height == 4, height)

    def test_each_height_where_there_is_no_hill(self):
        for height in range(6):
            self.assertIs(on_ground(self.hills, (1, -1, height, 3, 3)), height == 0, height)
            self.assertIs(on_ground([], (1, -2, height, 3, 3)), height == 0, height)

    def test_x_and_y_are_not_mixed_up(self):
        self.assertIs(on_ground([(2, 7, 3)], (2, 7, 3, 0, 0)), True)
        self.assertIs(on_ground([(2, 7, 3)], (7, 2, 3, 0, 0)), False)
        self.assertIs(on_ground([(2, 7, 3)], (7, 2, 0, 0, 0)), True)

    def test_what_is_left_says_nothing(self):
        for sacks, puffs in itertools.product((0, 4, 6), repeat=2):
            self.assertIs(on_ground(self.hills, (1, -2, 4, sacks, puffs)), True)
            self.assertIs(on_ground(self.hills, (1, -2, 3, sacks, puffs)), False)

    def test_the_list_stays_as_it_was(self):
        hills = list(self.hills)
        on_ground(hills, (1, -2, 4, 0, 0))
        self.assertEqual(hills, self.hills)


if __name__ == "__main__":
    unittest.main()

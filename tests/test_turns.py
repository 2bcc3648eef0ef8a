"""Turns and moves: [19] and the interface of ballastbook/turns.py."""

import random
import unittest

from ballastbook.turns import moved_sky, moved_state, turned_sky, turned_state
from tests.plain import BARRED_SKY, CALM, copied, plain_holds, some_sky, some_state

SKY = (
    [(3, 4, 2), (-1, 0, 5), (3, 4, 1)],
    [7, 2, 23],
    [(0, 5, 1, -2), (6, 0, 0, 2), (6, 0, -1, 0)],
    [(1, 2, 5, 9, 0, 3, 4, 8), (-4, -3, -4, -1, 2, 2, 0, 24)],
)


def repeated(action, thing, times):
    for number in range(times):
        thing = action(thing)
    return thing


class OwnLists(unittest.TestCase):
    """A sky that is told has lists of its own, and the handed one stays."""

    def own(self, action):
        sky = copied(SKY)
        told = action(sky)
        for mine in told:
            for theirs in sky:
                self.assertIsNot(mine, theirs)
            mine.append("x")
        self.assertEqual(sky, SKY)
        for part in sky:
            part.clear()
        self.assertEqual([len(part) for part in told], [len(part) + 1 for part in SKY])

    def test_turned(self):
        self.own(turned_sky)

    def test_moved(self):
        self.own(lambda sky: moved_sky(sky, 3, -2))
        self.own(lambda sky: moved_sky(sky, 0, 0))

    def test_kinds(self):
        for told in (turned_sky(SKY), moved_sky(SKY, 1, 1)):
            self.assertIsInstance(told, tuple)
            self.assertEqual(len(told), 4)
            for part in told:
                self.assertIsInstance(part, list)
            for part in (told[0], told[2], told[3]):
                for thing in part:
                    self.assertIsInstance(thing, tuple)


class TurnedState(unittest.TestCase):
    def test_the_four_sides(self):
        for (x, y), told in (((3, 0), (0, 3)), ((0, 3), (-3, 0)), ((-3, 0), (0, -3)), ((0, -3), (3, 0)),
                             ((0, 0), (0, 0)), ((2, 5), (-5, 2)), ((-2, 5), (-5, -2)),
                             ((2000, -2000), (2000, 2000))):
            self.assertEqual(turned_state((x, y, 1, 2, 3)), told + (1, 2, 3))

    def test_height_and_what_is_left_stay(self):
        for height, sacks, puffs in ((0, 6, 1), (5, 0, 6), (3, 2, 4)):
            self.assertEqual(turned_state((1, 2, height, sacks, puffs)), (-2, 1, height, sacks, puffs))

    def test_four_quarters_are_none(self):
        chance = random.Random(200)
        for turn in range(50):
            state = some_state(chance)
            self.assertEqual(repeated(turned_state, state, 4), state)
            x, y = repeated(turned_state, state, 2)[:2]
            self.assertEqual((x, y), (-state[0], -state[1]))


class TurnedSky(unittest.TestCase):
    def test_a_calm_sky(self):
        self.assertEqual(turned_sky(CALM), CALM)

    def test_all_parts(self):
        self.assertEqual(turned_sky(SKY), (
            [(-4, 3, 2), (0, -1, 5), (-4, 3, 1)],
            [7, 2, 23],
            [(0, 5, 2, 1), (6, 0, -2, 0), (6, 0, 0, -1)],
            [(-9, 1, -2, 5, 0, 3, 4, 8), (1, -4, 3, -4, 2, 2, 0, 24)],
        ))

    def test_boxes_stay_boxes_and_hold_what_is_turned(self):
        chance = random.Random(201)
        for turn in range(60):
            sky = some_sky(chance)
            for before, after in zip(sky[3], turned_sky(sky)[3]):
                x1, y1, x2, y2, low, high, first, last = after
                self.assertTrue(x1 <= x2 and y1 <= y2, after)
                self.assertEqual(after[4:], before[4:])
                for spot in range(20):
                    x, y = chance.randint(-5, 5), chance.randint(-5, 5)
                    self.assertEqual(plain_holds(before[:6], x, y, low), plain_holds(after[:6], -y, x, low))

    def test_four_quarters_are_none(self):
        chance = random.Random(202)
        for sky in [SKY, BARRED_SKY] + [some_sky(chance) for number in range(40)]:
            self.assertEqual(repeated(turned_sky, sky, 4), sky)

    def test_the_handed_sky_stays(self):
        sky = copied(SKY)
        turned_sky(sky)
        self.assertEqual(sky, SKY)


class MovedState(unittest.TestCase):
    def test_places_move(self):
        self.assertEqual(moved_state((1, 2, 3, 4, 5), 10, -20), (11, -18, 3, 4, 5))
        self.assertEqual(moved_state((1, 2, 0, 0, 6), 0, 0), (1, 2, 0, 0, 6))
        self.assertEqual(moved_state((-2000, 2000, 0, 0, 6), 4000, -4000), (2000, -2000, 0, 0, 6))

    def test_a_move_and_the_one_back_are_none(self):
        state = (7, -8, 1, 2, 3)
        for dx, dy in ((0, 5), (5, 0), (-30, 41)):
            self.assertEqual(moved_state(moved_state(state, dx, dy), -dx, -dy), state)

    def test_one_behind_the_other(self):
        self.assertEqual(moved_state(moved_state((7, -8, 1, 2, 3), 2, 9), -5, 4),
                         moved_state((7, -8, 1, 2, 3), -3, 13))


class MovedSky(unittest.TestCase):
    def test_all_parts(self):
        self.assertEqual(moved_sky(SKY, 10, -20), (
            [(13, -16, 2), (9, -20, 5), (13, -16, 1)],
            [7, 2, 23],
            SKY[2],
            [(11, -18, 15, -11, 0, 3, 4, 8), (6, -23, 6, -21, 2, 2, 0, 24)],
        ))

    def test_a_calm_sky(self):
        self.assertEqual(moved_sky(CALM, 5, 6), CALM)

    def test_a_move_and_the_one_back_are_none(self):
        chance = random.Random(203)
        for sky in [SKY, BARRED_SKY] + [some_sky(chance) for number in range(40)]:
            dx, dy = chance.randint(-50, 50), chance.randint(-50, 50)
            self.assertEqual(moved_sky(moved_sky(sky, dx, dy), -dx, -dy), sky)

    def test_one_behind_the_other(self):
        self.assertEqual(moved_sky(moved_sky(SKY, 2, 9), -5, 4), moved_sky(SKY, -3, 13))

    def test_no_move(self):
        self.assertEqual(moved_sky(SKY, 0, 0), SKY)

    def test_a_turn_behind_a_move(self):
        self.assertEqual(turned_sky(moved_sky(SKY, 2, 9)), moved_sky(turned_sky(SKY), -9, 2))

    def test_the_handed_sky_stays(self):
        sky = copied(SKY)
        moved_sky(sky, 5, 5)
        self.assertEqual(sky, SKY)


if __name__ == "__main__":
    unittest.main()

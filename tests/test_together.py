"""What [12] to [16] say of one another: tables, ways, needs, papers and sightings."""

import itertools
import random
import unittest

from ballastbook.needs import needed
from ballastbook.papers import bars, paper
from ballastbook.plans import best, ways
from ballastbook.sightings import possible
from ballastbook.tables import first_over, states, table
from tests.plain import BARRED_SKY, FORKED_SKY, plain_bars, some_sky, some_state

NEAR = list(itertools.product(range(-2, 3), repeat=2))


def enough(pairs, load):
    """Whether the load is as good as one of the pairs."""
    return any(load[0] >= sacks and load[1] >= puffs for sacks, puffs in pairs)


class WaysAndNeeds(unittest.TestCase):
    def meet(self, sky, hour, many, spot, goal):
        pairs = needed(sky, hour, many, *spot, *goal)
        for sacks, puffs in pairs:
            self.assertNotEqual(ways(sky, hour, spot + (sacks, puffs), many, *goal), [])
            for left in ((sacks - 1, puffs), (sacks, puffs - 1)):
                if min(left) >= 0:
                    self.assertEqual(ways(sky, hour, spot + left, many, *goal), [])
        for load in itertools.product(range(7), repeat=2):
            told = ways(sky, hour, spot + load, many, *goal)
            self.assertEqual(told != [], enough(pairs, load), (sky, hour, many, spot, load, goal))

    def test_a_state_has_a_way_just_where_it_has_what_is_needed(self):
        chance = random.Random(170)
        for turn in range(25):
            hour = chance.choice((0, 5, 18))
            sky, spot = some_sky(chance, hour), some_state(chance)[:3]
            self.meet(sky, hour, chance.randint(0, 5), spot, chance.choice(NEAR))

    def test_a_forked_sky(self):
        self.meet(FORKED_SKY, 0, 3, (0, 0, 1), (1, 0))

    def test_eight_hours(self):
        for goal in ((1, 0), (2, 2), (-1, 1)):
            self.meet(BARRED_SKY, 0, 8, (0, 0, 2), goal)


class ForthAndBack(unittest.TestCase):
    def test_they_meet_at_every_hour_between(self):
        chance = random.Random(171)
        for turn in range(40):
            hour, many = chance.choice((0, 5, 18)), chance.choice((3, 5, 6))
            sky, state, (x, y) = some_sky(chance, hour), some_state(chance), chance.choice(NEAR)
            way = ways(sky, hour, state, many, x, y) != []
            rows = table(sky, hour, state, many)
            for at, found in enumerate(rows):
                sooner = first_over(rows[:at], x, y) is not None
                onward = any(enough(needed(sky, hour + at, many - at, *other[:3], x, y), other[3:])
                             for other in found)
                self.assertEqual(sooner or onward, way, (sky, hour, state, many, x, y, at))


class WaysAndPapers(unittest.TestCase):
    def test_a_paper_is_told_just_where_there_is_no_way(self):
        chance = random.Random(172)
        for turn in range(40):
            hour, many = chance.choice((0, 5, 18)), chance.choice((0, 2, 6))
            sky, state = some_sky(chance, hour), some_state(chance)
            for x, y in NEAR:
                asked = (sky, hour, state, many, x, y)
                rows = paper(*asked)
                self.assertEqual(rows is None, ways(*asked) != [], asked)
                self.assertEqual(rows is None, best(*asked) is not None, asked)
                if rows is not None:
                    self.assertIs(bars(*asked, rows), True, asked)

    def test_a_paper_bars_for_poorer_states_too(self):
        chance = random.Random(173)
        for turn in range(30):
            sky, state = some_sky(chance), some_state(chance, most=3)
            x, y = chance.choice(NEAR)
            rows = paper(sky, 0, state, 4, x, y)
            if rows is None:
                continue
            for sacks, puffs in itertools.product(range(state[3] + 1), range(state[4] + 1)):
                poorer = (sky, 0, state[:3] + (sacks, puffs), 4, x, y)
                self.assertIs(bars(*poorer, rows), True, poorer)
                self.assertTrue(plain_bars(*poorer, rows), poorer)
                self.assertEqual(ways(*poorer), [], poorer)
                self.assertIsNotNone(paper(*poorer), poorer)


class TablesAndSightings(unittest.TestCase):
    def test_without_sightings_the_last_list_is_all_that_is_reached(self):
        chance = random.Random(174)
        for turn in range(40):
            sky, state = some_sky(chance), some_state(chance)
            many = chance.randint(0, 8)
            if states(sky, 0, state, many):
                self.assertEqual(possible(sky, 0, state, many, [])[-1], states(sky, 0, state, many))


if __name__ == "__main__":
    unittest.main()

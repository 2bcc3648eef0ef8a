"""Papers: [15] and the interface of ballastbook/papers.py."""

import copy
import itertools
import random
import unittest

from ballastbook.papers import bars, paper
from tests.plain import (
    BARRED_SKY, CALM, FORKED_SKY, WALLED_SKY, all_flights, copied, flights_up_to, plain_bars,
    plain_thinned, some_sky, some_state)


def reached_rows(sky, hour, state, many):
    """For each hour all states that are reached, out of all rows."""
    return [sorted({stood[-1] for row, stood in all_flights(sky, hour, state, length)})
            for length in range(many + 1)]


class Paper(unittest.TestCase):
    def agree(self, sky, hour, state, many):
        reached = {stood[-1][:2] for row, stood in flights_up_to(sky, hour, state, many)}
        around = {(x + dx, y + dy) for x, y in reached for dx in (-1, 0, 1) for dy in (-1, 0, 1)}
        for x, y in sorted(around):
            rows = paper(sky, hour, state, many, x, y)
            asked = (sky, hour, state, many, x, y)
            if (x, y) in reached:
                self.assertIsNone(rows, asked)
                continue
            self.assertIsInstance(rows, list, asked)
            self.assertEqual(len(rows), many + 1, asked)
            self.assertTrue(plain_bars(*asked, rows), asked)
            self.assertIs(bars(*asked, rows), True, asked)
            for other in itertools.chain.from_iterable(rows):
                self.assertIsInstance(other, tuple)
                for number, most in zip(other, (2000, 2000, 5, 6, 6)):
                    self.assertLessEqual(abs(number), most)
                self.assertGreaterEqual(min(other[2:]), 0)

    def test_a_calm_sky(self):
        self.agree(CALM, 16, (0, 0, 2, 1, 1), 3)
        self.agree(CALM, 24, (0, 0, 2, 1, 1), 0)

    def test_a_sky_that_bars_some(self):
        for height in range(6):
            self.agree(BARRED_SKY, 0, (0, 0, height, 3, 3), 4)

    def test_a_forked_sky(self):
        self.agree(FORKED_SKY, 0, (0, 0, 1, 2, 2), 5)

    def test_nothing_can_be_flown(self):
        self.agree(WALLED_SKY, 0, (0, 0, 2, 2, 2), 4)

    def test_some_skies(self):
        chance = random.Random(150)
        for turn in range(25):
            hour = chance.choice((0, 9, 20))
            self.agree(some_sky(chance, hour), hour, some_state(chance), 4)

    def test_eight_hours(self):
        rows = paper(BARRED_SKY, 0, (0, 0, 2, 6, 6), 8, -50, 50)
        self.assertTrue(plain_bars(BARRED_SKY, 0, (0, 0, 2, 6, 6), 8, -50, 50, rows))
        self.assertIs(bars(BARRED_SKY, 0, (0, 0, 2, 6, 6), 8, -50, 50, rows), True)

    def test_its_own_place(self):
        for many in (0, 3):
            self.assertIsNone(paper(CALM, 0, (4, 5, 2, 1, 1), many, 4, 5))

    def test_told_lists_that_are_changed(self):
        asked = (BARRED_SKY, 0, (0, 0, 2, 2, 2), 3, 9, 9)
        rows = paper(*asked)
        for found in rows:
            found.clear()
        rows.pop()
        again = paper(*asked)
        self.assertTrue(plain_bars(*asked, again))
        self.assertIs(bars(*asked, again), True)

    def test_the_sky_stays_as_it_was(self):
        sky = copied(BARRED_SKY)
        rows = paper(sky, 0, (0, 0, 2, 2, 2), 3, 9, 9)
        bars(sky, 0, (0, 0, 2, 2, 2), 3, 9, 9, rows)
        self.assertEqual(sky, BARRED_SKY)


class Bars(unittest.TestCase):
    sky, state, many, goal = BARRED_SKY, (0, 0, 2, 2, 2), 3, (9, 9)

    def setUp(self):
        self.rows = [plain_thinned(found)
                     for found in reached_rows(self.sky, 0, self.state, self.many)]

    def ask(self, rows, state=None, goal=None):
        """Asks, and looks whether the words of the document say the same."""
        asked = (self.sky, 0, state or self.state, self.many) + (goal or self.goal) + (rows,)
        told = bars(*asked)
        self.assertIs(told, plain_bars(*asked), rows)
        return told

    def test_all_states_that_are_reached(self):
        self.assertIs(self.ask(reached_rows(self.sky, 0, self.state, self.many)), True)

    def test_thinned_to_what_none_beats(self):
        self.assertIs(self.ask(self.rows), True)

    def test_in_any_order_and_told_twice(self):
        chance = random.Random(151)
        for turn in range(10):
            rows = [found * 2 for found in self.rows]
            for found in rows:
                chance.shuffle(found)
            self.assertIs(self.ask(rows), True)

    def test_a_state_left_out(self):
        for at, found in enumerate(self.rows):
            for number in range(len(found)):
                rows = copy.deepcopy(self.rows)
                del rows[at][number]
                self.assertIs(self.ask(rows), False, (at, number))

    def test_a_sack_or_a_puff_less(self):
        for at, found in enumerate(self.rows):
            for number, (x, y, height, sacks, puffs) in enumerate(found):
                for left in ((sacks - 1, puffs), (sacks, puffs - 1)):
                    if min(left) >= 0:
                        rows = copy.deepcopy(self.rows)
                        rows[at][number] = (x, y, height) + left
                        self.assertIs(self.ask(rows), False, (at, number, left))

    def test_a_sack_or_a_puff_more(self):
        told = []
        for at, found in enumerate(self.rows):
            for number, (x, y, height, sacks, puffs) in enumerate(found):
                for left in ((sacks + 1, puffs), (sacks, puffs + 1)):
                    rows = copy.deepcopy(self.rows)
                    rows[at][number] = (x, y, height) + left
                    told.append(self.ask(rows))
        self.assertEqual(set(told), {True, False})

    def test_more_of_the_last_list_does_no_harm(self):
        rows = self.rows[:-1] + [[state[:3] + (6, 6) for state in self.rows[-1]]]
        self.assertIs(self.ask(rows), True)

    def test_a_state_at_another_height(self):
        for at, found in enumerate(self.rows):
            for number, state in enumerate(found):
                for height in range(6):
                    rows = copy.deepcopy(self.rows)
                    rows[at][number] = state[:2] + (height,) + state[3:]
                    self.assertIs(self.ask(rows), height == state[2], (at, number, height))

    def test_a_state_that_stands_over_the_place(self):
        for at in range(self.many + 1):
            for height in range(6):
                rows = copy.deepcopy(self.rows)
                rows[at].insert(0, self.goal + (height, 0, 0))
                self.assertIs(self.ask(rows), False, (at, height))

    def test_places_that_the_lists_stand_over(self):
        for state in itertools.chain.from_iterable(self.rows):
            self.assertIs(self.ask(self.rows, goal=state[:2]), False)

    def test_x_and_y_are_not_mixed_up(self):
        rows = copy.deepcopy(self.rows)
        rows[3].append((8, 9, 0, 0, 0))
        self.assertIs(self.ask(rows, goal=(9, 8)), True)
        self.assertIs(self.ask(rows, goal=(8, 9)), False)

    def test_a_list_too_many_or_too_few(self):
        self.assertIs(self.ask(self.rows + [[]]), False)
        self.assertIs(self.ask(self.rows + [self.rows[-1]]), False)
        self.assertIs(self.ask([[]] + self.rows), False)
        self.assertIs(self.ask(self.rows[:-1]), False)
        self.assertIs(self.ask(self.rows[1:]), False)
        self.assertIs(self.ask([]), False)

    def test_a_list_too_many_that_would_hold(self):
        asked = (CALM, 0, (0, 0, 2, 0, 0))
        rows = [[(0, 0, 2, 0, 0)] for hour in range(4)]
        self.assertEqual([bars(*asked, many, 5, 5, rows) for many in range(6)],
                         [False, False, False, True, False, False])

    def test_no_lists_and_no_hours(self):
        self.assertIs(bars(CALM, 24, (0, 0, 2, 0, 0), 0, 5, 5, []), False)
        self.assertIs(bars(CALM, 24, (0, 0, 2, 0, 0), 0, 5, 5, [[]]), False)
        self.assertIs(bars(CALM, 24, (0, 0, 2, 0, 0), 0, 5, 5, [[(0, 0, 2, 0, 0)]]), True)
        self.assertIs(bars(CALM, 24, (0, 0, 2, 0, 0), 0, 0, 0, [[(0, 0, 2, 0, 0)]]), False)

    def test_two_lists_exchanged(self):
        for one, other in itertools.combinations(range(self.many + 1), 2):
            rows = copy.deepcopy(self.rows)
            rows[one], rows[other] = rows[other], rows[one]
            self.ask(rows)
        rows = [self.rows[1], self.rows[0]] + self.rows[2:]
        self.assertIs(self.ask(rows), False)

    def test_an_empty_list(self):
        for at in range(self.many + 1):
            rows = copy.deepcopy(self.rows)
            rows[at] = []
            self.assertIs(self.ask(rows), False, at)

    def test_empty_lists_where_nothing_can_be_flown(self):
        rows = [[(0, 0, 2, 6, 6)], [], [], []]
        self.assertIs(bars(WALLED_SKY, 0, (0, 0, 2, 6, 6), 3, 1, 1, rows), True)

    def test_the_first_list_must_cover_the_state(self):
        state = self.state
        for first in ([], [(1, 0) + state[2:]], [(0, 1) + state[2:]], [state[:2] + (3,) + state[3:]],
                      [state[:3] + (1, 2)], [state[:3] + (2, 1)], [state[:3] + (1, 6)],
                      [state[:3] + (6, 1), state[:3] + (1, 6)]):
            rows = [first] + [self.far_and_wide(reach) for reach in (4, 6, 8)]
            self.assertIs(self.ask(rows), False, first)
        for first in ([state], [state[:3] + (6, 6)], [state[:3] + (2, 3), state[:3] + (0, 0)]):
            rows = [first] + [self.far_and_wide(reach) for reach in (4, 6, 8)]
            self.assertIs(self.ask(rows), True, first)

    def far_and_wide(self, reach):
        """As much as can be left at each spot around: covers all that is led to."""
        field = range(-reach, reach + 1)
        return [(x, y, height, 6, 6) for x in field for y in field for height in range(6)]

    def test_states_of_a_middle_list_that_none_leads_to_must_be_led_on_too(self):
        rows = copy.deepcopy(self.rows)
        rows[1].append((30, 30, 2, 0, 0))
        self.assertIs(self.ask(rows), False)
        rows[2].append((31, 30, 2, 0, 0))
        self.ask(rows)

    def test_orders_that_can_not_be_flown_ask_nothing(self):
        sky = ([(0, 0, 2)], [], [], [(0, 0, 0, 0, 3, 3, 1, 1)])
        state = (0, 0, 2, 1, 1)
        self.assertIs(bars(sky, 0, state, 1, 5, 5, [[state], [state]]), True)
        self.assertIs(bars(sky, 1, state, 1, 5, 5, [[state], [state]]), False)
        self.assertIs(bars(sky, 1, state, 1, 5, 5, [[state], [state, (0, 0, 3, 0, 1)]]), True)

    def test_each_list_has_its_own_hour(self):
        sky = ([], [], [(3, 2, 1, 0), (4, 2, 0, 1)], [])
        rows = [[(0, 0, 2, 0, 0)], [(1, 0, 2, 0, 0)], [(1, 1, 2, 0, 0)]]
        self.assertIs(bars(sky, 3, (0, 0, 2, 0, 0), 2, 5, 5, rows), True)
        for hour in (0, 1, 2, 4, 5):
            self.assertIs(bars(sky, hour, (0, 0, 2, 0, 0), 2, 5, 5, rows), False, hour)

    def test_a_paper_of_a_richer_state_for_poorer_ones(self):
        for sacks, puffs in itertools.product(range(7), repeat=2):
            told = self.ask(self.rows, state=(0, 0, 2, sacks, puffs))
            self.assertIs(told, sacks <= 2 and puffs <= 2, (sacks, puffs))

    def test_some_lists(self):
        chance = random.Random(152)
        told = []
        for turn in range(300):
            sky, state, many = some_sky(chance), some_state(chance, most=2), 3
            rows = reached_rows(sky, 0, state, many)
            for change in range(chance.randint(0, 2)):
                found = chance.choice(rows)
                if found and chance.random() < 0.5:
                    found.remove(chance.choice(found))
                else:
                    found.append(some_state(chance, most=2))
            asked = (sky, 0, state, many, chance.randint(-3, 3), chance.randint(-3, 3), rows)
            told.append(bars(*asked))
            self.assertIs(told[-1], plain_bars(*asked), asked)
        self.assertGreater(min(told.count(True), told.count(False)), 30)

    def test_the_lists_stay_as_they_were(self):
        rows = copy.deepcopy(self.rows)
        rows[2].reverse()
        before = copy.deepcopy(rows)
        self.ask(rows)
        self.assertEqual(rows, before)


if __name__ == "__main__":
    unittest.main()

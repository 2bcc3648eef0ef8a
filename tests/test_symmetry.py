"""What holds over all questions: turned and moved skies, richer states, and later winds."""

import random
import unittest

from ballastbook.errors import NothingFits
from ballastbook.meetings import first_meeting
from ballastbook.needs import needed
from ballastbook.papers import bars, paper
from ballastbook.plans import best, ways
from ballastbook.races import distance, nearest, ranked
from ballastbook.sightings import possible
from ballastbook.tables import count_flights, states, table
from ballastbook.turns import moved_sky, moved_state, turned_sky, turned_state
from tests.plain import BARRED_SKY, FORKED_SKY, some_box, some_sky, some_state


def some_sightings(chance, first, last):
    return [(chance.randint(first, last),) + some_box(chance, 4) + (chance.random() < 0.3,)
            for number in range(chance.randint(0, 3))]


def possible_or_hour(*asked):
    try:
        return possible(*asked)
    except NothingFits as refusal:
        return refusal.hour


class Turn:
    """A quarter turn, of all that can be handed in and told."""

    sky = staticmethod(turned_sky)
    state = staticmethod(turned_state)

    @staticmethod
    def place(x, y):
        return (-y, x)

    @staticmethod
    def sighting(told):
        hour, x1, y1, x2, y2, low, high, seen = told
        return (hour, -y2, x1, -y1, x2, low, high, seen)


class Move:
    """A move, of all that can be handed in and told."""

    def __init__(self, dx, dy):
        self.dx, self.dy = dx, dy

    def sky(self, sky):
        return moved_sky(sky, self.dx, self.dy)

    def state(self, state):
        return moved_state(state, self.dx, self.dy)

    def place(self, x, y):
        return (x + self.dx, y + self.dy)

    def sighting(self, told):
        hour, x1, y1, x2, y2, low, high, seen = told
        return (hour,) + self.place(x1, y1) + self.place(x2, y2) + (low, high, seen)


class Changed(unittest.TestCase):
    """All answers of a changed sky are those of the sky itself, changed."""

    def rows(self, change, told):
        return [sorted(map(change.state, found)) for found in told]

    def alike_rows(self, change, sky, hour, state, many):
        before, after = (sky, hour, state, many), (change.sky(sky), hour, change.state(state), many)
        self.assertEqual(table(*after), self.rows(change, table(*before)))
        self.assertEqual([states(*after)], self.rows(change, [states(*before)]))
        self.assertEqual(count_flights(*after), count_flights(*before))

    def alike_ways(self, change, sky, hour, state, many, goal):
        before = (sky, hour, state, many) + goal
        after = (change.sky(sky), hour, change.state(state), many) + change.place(*goal)
        self.assertEqual(ways(*after), ways(*before))
        self.assertEqual(best(*after), best(*before))
        self.assertEqual(nearest(*after), nearest(*before))
        rows = paper(*before)
        self.assertEqual(paper(*after) is None, rows is None)
        if rows is not None:
            self.assertIs(bars(*after, self.rows(change, rows)), True)
        self.assertEqual(
            needed(change.sky(sky), hour, many, *change.place(*state[:2]), state[2], *change.place(*goal)),
            needed(sky, hour, many, *state[:3], *goal))

    def alike_possible(self, change, sky, hour, state, many, sightings):
        before = possible_or_hour(sky, hour, state, hour + many, sightings)
        after = possible_or_hour(change.sky(sky), hour, change.state(state), hour + many,
                                 [change.sighting(told) for told in sightings])
        if isinstance(before, list):
            before = self.rows(change, before)
        self.assertEqual(after, before)

    def alike_meeting(self, change, sky, hour, one, other, many):
        before = first_meeting(sky, hour, one, other, many)
        after = first_meeting(change.sky(sky), hour, change.state(one), change.state(other), many)
        if before is not None:
            before = (before[0], sorted(change.place(*place) for place in before[1]))
        self.assertEqual(after, before)

    def alike(self, change, chance, sky, hour):
        one, other = some_state(chance), some_state(chance)
        goal, many = (chance.randint(-3, 3), chance.randint(-3, 3)), chance.randint(0, 5)
        self.alike_rows(change, sky, hour, one, many)
        self.alike_ways(change, sky, hour, one, many, goal)
        self.alike_possible(change, sky, hour, one, many, some_sightings(chance, hour, hour + many))
        self.alike_meeting(change, sky, hour, one, other, many)
        place, other_place = change.place(*one[:2]), change.place(*other[:2])
        self.assertEqual(distance(*place, *other_place), distance(*one[:2], *other[:2]))
        field = [some_state(chance) for number in range(5)]
        self.assertEqual(ranked(list(map(change.state, field)), *change.place(*goal)), ranked(field, *goal))

    def test_turned(self):
        chance = random.Random(210)
        for turn in range(60):
            hour = chance.choice((0, 5, 18))
            self.alike(Turn(), chance, some_sky(chance, hour), hour)
        for sky in (BARRED_SKY, FORKED_SKY):
            self.alike(Turn(), chance, sky, 0)

    def test_moved(self):
        chance = random.Random(211)
        for turn in range(60):
            hour, change = chance.choice((0, 5, 18)), Move(chance.randint(-90, 90), chance.randint(-90, 90))
            self.alike(change, chance, some_sky(chance, hour), hour)
        for sky in (BARRED_SKY, FORKED_SKY):
            self.alike(Move(1900, -1900), chance, sky, 0)

    def test_eight_hours(self):
        chance = random.Random(212)
        for change in (Turn(), Move(-31, 17)):
            sky, state = some_sky(chance, 16), some_state(chance)
            self.alike_rows(change, sky, 16, state, 8)
            self.alike_ways(change, sky, 16, state, 8, (3, -2))
            self.alike_meeting(change, sky, 16, state, some_state(chance), 8)


def covers(one, other):
    return one[:3] == other[:3] and one[3] >= other[3] and one[4] >= other[4]


class Richer(unittest.TestCase):
    """A state with as much or more left does whatever the poorer one does."""

    def never_loses(self, sky, hour, poor, rich, many, goal, other):
        for mine, theirs in zip(table(sky, hour, rich, many), table(sky, hour, poor, many)):
            for state in theirs:
                self.assertTrue(any(covers(better, state) for better in mine), (sky, hour, poor, rich))
        told = ways(sky, hour, rich, many, *goal)
        for sacks, puffs, orders in ways(sky, hour, poor, many, *goal):
            self.assertTrue(any(way[0] >= sacks and way[1] >= puffs for way in told), (sky, poor, rich))
        self.assertLessEqual(nearest(sky, hour, rich, many, *goal), nearest(sky, hour, poor, many, *goal))
        self.meets(sky, hour, poor, rich, many, other)

    def meets(self, sky, hour, poor, rich, many, other):
        before = first_meeting(sky, hour, poor, other, many)
        if before is None:
            return
        after = first_meeting(sky, hour, rich, other, many)
        self.assertLessEqual(after[0], before[0])
        if after[0] == before[0]:
            self.assertLessEqual(set(before[1]), set(after[1]))

    def test_some_skies(self):
        chance = random.Random(213)
        for turn in range(80):
            hour = chance.choice((0, 5, 18))
            sky, poor, many = some_sky(chance, hour), some_state(chance, most=3), chance.randint(0, 6)
            rich = poor[:3] + (poor[3] + chance.randint(0, 3), poor[4] + chance.randint(0, 3))
            goal, other = (chance.randint(-4, 4), chance.randint(-4, 4)), some_state(chance)
            self.never_loses(sky, hour, poor, rich, many, goal, other)

    def test_as_much_left(self):
        self.never_loses(BARRED_SKY, 0, (0, 0, 2, 2, 2), (0, 0, 2, 2, 2), 6, (2, 1), (1, 1, 1, 3, 3))


class Later(unittest.TestCase):
    """Winds and shuttings from a later hour on alter nothing ahead of their first hour."""

    def altered(self, chance, sky, first):
        hills, cool, winds, shuts = sky
        gusts = [(first + chance.randint(0, 23 - first), chance.randint(0, 5), chance.randint(-2, 2),
                  chance.randint(-2, 2)) for number in range(4)] + [(first, 2, 1, -2)]
        closed = some_box(chance, 4) + (first, 24)
        return (hills, cool, winds + gusts, shuts + [closed, (-2000, -2000, 2000, 2000, 4, 5, first, first)])

    def test_tables(self):
        chance = random.Random(214)
        for turn in range(60):
            hour, many = chance.choice((0, 5, 15)), chance.randint(1, 7)
            first = hour + chance.randint(1, many)
            sky, state = some_sky(chance, hour), some_state(chance)
            after = self.altered(chance, sky, first)
            ahead = first - hour
            self.assertEqual(table(after, hour, state, many)[:ahead], table(sky, hour, state, many)[:ahead])

    def test_winds_alone_leave_their_first_hour_too(self):
        chance = random.Random(215)
        for turn in range(30):
            sky, state = some_sky(chance), some_state(chance)
            after = sky[:2] + (sky[2] + [(3, height, 1, 2) for height in range(6)],) + sky[3:]
            self.assertEqual(table(after, 0, state, 5)[:4], table(sky, 0, state, 5)[:4])

    def test_possible(self):
        chance = random.Random(216)
        for turn in range(60):
            hour, many = chance.choice((0, 5, 15)), chance.randint(0, 6)
            sky, state = some_sky(chance, hour), some_state(chance)
            sightings = some_sightings(chance, hour, hour + many)
            after = self.altered(chance, sky, hour + many + 1)
            self.assertEqual(possible_or_hour(after, hour, state, hour + many, sightings),
                             possible_or_hour(sky, hour, state, hour + many, sightings))

    def test_ways_and_needs_within_the_hours_ahead(self):
        chance = random.Random(217)
        for turn in range(30):
            sky, state, many = some_sky(chance), some_state(chance), chance.randint(0, 5)
            after, goal = self.altered(chance, sky, many + 1), (chance.randint(-3, 3), chance.randint(-3, 3))
            self.assertEqual(ways(after, 0, state, many, *goal), ways(sky, 0, state, many, *goal))
            self.assertEqual(needed(after, 0, many, *state[:3], *goal), needed(sky, 0, many, *state[:3], *goal))


if __name__ == "__main__":
    unittest.main()

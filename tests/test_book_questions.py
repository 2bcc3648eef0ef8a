"""What a book tells: the questions of the interface, and [2] over all that they tell."""

import copy
import itertools
import unittest

from ballastbook.book import Book
from ballastbook.meetings import first_meeting
from ballastbook.papers import bars
from ballastbook.plans import ways
from ballastbook.races import nearest
from ballastbook.sightings import possible
from ballastbook.steps import flown
from ballastbook.tables import table
from tests.plain_book import all_told, outcome

FAR = 1000


def some_book():
    """A book at hour 9 with one balloon of each fate, and two aloft."""
    book = Book([(1, 0, 2), (0, 2, 5)], [2, 10])
    for wind in ((0, 1, 1, 0), (0, 2, 0, 1), (9, 3, 0, -1), (9, 1, 1, 1)):
        book.wind(*wind)
    book.shut((3, 3, 4, 4, 0, 5), 10, 12)
    book.launch("gone", (5, 5, 2, 1, 1))
    book.lose("gone")
    book.launch("down", (-3, -3, 0, 2, 2))
    book.land("down")
    for hour in range(9):
        book.drift([])
    book.launch("lost", (4, 4, 3, 2, 1))
    book.lose("lost")
    book.launch("one", (0, 0, 2, 2, 2))
    book.launch("two", (2, 2, 1, 1, 2))
    return book


FATES = (("one", "aloft"), ("two", "aloft"), ("down", "landed"), ("lost", "lost"), ("gone", "gone"))
NOT_ALOFT = ("down", "lost", "gone")


class Asked(unittest.TestCase):
    def setUp(self):
        self.book = some_book()
        self.before = all_told(self.book, names=self.book.names())

    def tearDown(self):
        # What only asks, and what is refused, changes nothing.
        self.assertEqual(all_told(self.book, names=self.book.names()), self.before)

    def refused(self, refusal, call, *given):
        if isinstance(refusal, str):
            refusal = (refusal,)
        self.assertEqual(outcome(call, *given), refusal, given)


class Standing(Asked):
    def test_now_and_names(self):
        self.assertEqual(self.book.now(), 9)
        self.assertEqual(self.book.names(), ["gone", "down", "lost", "one", "two"])

    def test_sky(self):
        self.assertEqual(self.book.sky(), (
            [(1, 0, 2), (0, 2, 5)], [2, 10], [(0, 1, 1, 0), (0, 2, 0, 1), (9, 3, 0, -1), (9, 1, 1, 1)],
            [(3, 3, 4, 4, 0, 5, 10, 12)]))

    def test_done(self):
        done = self.book.done()
        self.assertEqual(len(done), 22)
        self.assertEqual(done[:9], [
            ("wind", 0, 1, 1, 0), ("wind", 0, 2, 0, 1), ("wind", 9, 3, 0, -1), ("wind", 9, 1, 1, 1),
            ("shut", 3, 3, 4, 4, 0, 5, 10, 12), ("launch", "gone", 5, 5, 2, 1, 1), ("lose", "gone"),
            ("launch", "down", -3, -3, 0, 2, 2), ("land", "down")])
        self.assertEqual(done[9:18], [("drift", ())] * 9)

    def test_status(self):
        for name, fate in FATES:
            self.assertEqual(self.book.status(name), fate)
        self.refused("NoBalloon", self.book.status, "nobody")
        self.refused("NoBalloon", self.book.status, "")

    def test_state(self):
        self.assertEqual(self.book.state("one"), (0, 0, 2, 2, 2))
        self.assertEqual(self.book.state("down"), (-3, -3, 0, 2, 2))
        for name in ("lost", "gone"):
            self.refused("OutOfSight", self.book.state, name)
        self.refused("NoBalloon", self.book.state, "nobody")

    def test_log(self):
        self.assertEqual(self.book.log("one"), [(9, 0, 0, 2, 2, 2)])
        self.assertEqual(self.book.log("down"), [(0, -3, -3, 0, 2, 2)])
        self.assertEqual(self.book.log("lost"), [(9, 4, 4, 3, 2, 1)])
        self.assertEqual(self.book.log("gone"), [(0, 5, 5, 2, 1, 1)])
        self.refused("NoBalloon", self.book.log, "nobody")

    def test_sightings(self):
        self.assertEqual(self.book.sightings("lost"), [])
        book = self.book.twin()
        book.drift([("two", "up")])
        book.seen("lost", 10, (0, 0, 9, 9, 0, 5))
        book.unseen("lost", 9, (0, 0, 0, 9, 0, 5))
        self.assertEqual(book.sightings("lost"), [(10, 0, 0, 9, 9, 0, 5, True), (9, 0, 0, 0, 9, 0, 5, False)])
        for name in ("one", "down", "gone"):
            self.refused("NotLost", self.book.sightings, name)
        self.refused("NoBalloon", self.book.sightings, "nobody")


class Where(Asked):
    def test_as_the_function_tells(self):
        book = self.book.twin()
        book.lose("one")
        book.lose("two")
        for number in range(3):
            book.drift([])
        book.unseen("lost", 10, (4, 3, 4, 3, 3, 3))
        told = possible(book.sky(), 9, (4, 4, 3, 2, 1), 12, book.sightings("lost"))
        for hour in range(9, 13):
            self.assertEqual(book.where("lost", hour), told[hour - 9])

    def test_refusals(self):
        self.refused("NoBalloon", self.book.where, "nobody", 9)
        self.refused("NoBalloon", self.book.where, "nobody", -5)
        for name in ("one", "down", "gone"):
            self.refused("NotLost", self.book.where, name, 9)
            self.refused("NotLost", self.book.where, name, 99)
        for hour in (8, 10, -1, 24, 25):
            self.refused("BadHour", self.book.where, "lost", hour)
        self.assertEqual(self.book.where("lost", 9), [(4, 4, 3, 2, 1)])

    def test_nothing_fits(self):
        book = self.book.twin()
        book.shut((-999, -999, 999, 999, 0, 5), 11, 11)
        book.lose("one")
        book.lose("two")
        book.drift([])
        self.assertNotEqual(book.where("lost", 9), [])
        book.drift([])
        self.refused(("NothingFits", 11), book.where, "lost", 9)
        self.refused(("NothingFits", 11), book.where, "lost", 11)
        self.refused("BadHour", book.where, "lost", 8)


class OfOneAloft(Asked):
    def test_as_the_functions_tell(self):
        sky = self.book.sky()
        for name, many in itertools.product(("one", "two"), (0, 1, 4, 8)):
            state = self.book.state(name)
            self.assertEqual(self.book.table(name, many), table(sky, 9, state, many))
            for x, y in ((0, 0), (1, 1), (3, 1), (-2, 5), (999, -999)):
                asked = (sky, 9, state, many, x, y)
                self.assertEqual(self.book.ways(name, many, x, y), ways(*asked))
                self.assertEqual(self.book.nearest(name, many, x, y), nearest(*asked))
                rows = self.book.paper(name, many, x, y)
                self.assertEqual(rows is None, ways(*asked) != [])
                if rows is not None:
                    self.assertIs(bars(*asked, rows), True)

    def test_names_and_fates(self):
        calls = [(self.book.table, ()), (self.book.ways, (0, 0)), (self.book.paper, (0, 0)),
                 (self.book.nearest, (0, 0))]
        for call, place in calls:
            self.refused("NoBalloon", call, "nobody", 0, *place)
            self.refused("NoBalloon", call, "nobody", 99, *[FAR for part in place])
            for name in NOT_ALOFT:
                self.refused("NotAloft", call, name, 0, *place)
                self.refused("NotAloft", call, name, -1, *[FAR for part in place])

    def test_many(self):
        for now in (9, 15, 16, 17, 23, 24):
            book = self.book.twin()
            book.lose("two")
            book.lose("one")
            for hour in range(now - 9):
                book.drift([])
            book.launch("three", (-9, -9, 0, 1, 1))
            for many in range(-2, 12):
                for call, place in ((book.table, ()), (book.ways, (0, 0)), (book.paper, (0, 0)),
                                    (book.nearest, (0, 0))):
                    told = outcome(call, "three", many, *place)
                    good = 0 <= many <= 8 and now + many <= 24
                    self.assertEqual(told[0], "told" if good else "BadHour", (now, many))

    def test_places(self):
        for call in (self.book.ways, self.book.paper, self.book.nearest):
            for x, y in ((FAR, 0), (-FAR, 0), (0, FAR), (0, -FAR)):
                self.refused("BadPlace", call, "one", 3, x, y)
                self.refused("BadHour", call, "one", 9, x, y)
            for x, y in ((999, 999), (-999, -999)):
                self.assertEqual(outcome(call, "one", 3, x, y)[0], "told")


class Meeting(Asked):
    def test_as_the_function_tells(self):
        for one, other in itertools.product(("one", "two"), repeat=2):
            for many in range(9):
                self.assertEqual(
                    self.book.meeting(one, other, many),
                    first_meeting(self.book.sky(), 9, self.book.state(one), self.book.state(other), many))

    def test_with_itself(self):
        self.assertEqual(self.book.meeting("one", "one", 0), (9, [(0, 0)]))

    def test_none(self):
        self.assertIsNone(self.book.meeting("one", "two", 0))

    def test_refusals(self):
        self.refused("NoBalloon", self.book.meeting, "nobody", "down", 99)
        self.refused("NoBalloon", self.book.meeting, "one", "nobody", 99)
        for name in NOT_ALOFT:
            self.refused("NotAloft", self.book.meeting, name, "nobody", 99)
            self.refused("NotAloft", self.book.meeting, "one", name, 99)
            self.refused("NoBalloon", self.book.meeting, "nobody", name, 1)
        for many in (-1, 9, 16):
            self.refused("BadHour", self.book.meeting, "one", "two", many)


class Tried(Asked):
    def test_as_the_function_tells(self):
        for orders in ((), ("level",), ("up", "down"), ("up", "level", "down", "level")):
            told = outcome(self.book.tried, "one", orders)
            self.assertEqual(told, outcome(flown, self.book.sky(), 9, (0, 0, 2, 2, 2), orders))
        self.assertEqual(self.book.tried("one", ()), [(0, 0, 2, 2, 2)])

    def test_stopped_with_the_place_of_the_order(self):
        self.refused(("Stopped", 2, "sacks"), self.book.tried, "one", ("up", "up", "up"))
        # Hour 10 is cool: up comes to height 2 again, and the wind leads to the hill.
        self.refused(("Stopped", 1, "hill"), self.book.tried, "one", ("level", "up"))
        self.refused(("Stopped", 0, "shut"), self.book.tried, "two", ("level", "up"))

    def test_too_many_orders(self):
        self.assertEqual(outcome(self.book.tried, "one", ("up",) * 8)[0], "Stopped")
        self.refused("BadHour", self.book.tried, "one", ("up",) * 9)
        self.refused("BadHour", self.book.tried, "one", ("sideways",) * 9)
        book = self.book.twin()
        book.lose("one")
        book.lose("two")
        for hour in range(14):
            book.drift([])
        book.launch("three", (-9, -9, 0, 1, 1))
        self.assertEqual(len(book.tried("three", ("level",))), 2)
        self.refused("BadHour", book.tried, "three", ("level", "level"))

    def test_orders_that_are_none_ahead_of_stopped(self):
        for orders in (("sideways",), ("up", "up", "up", "UP"), ("up", "", "down")):
            self.refused("BadOrder", self.book.tried, "one", orders)

    def test_names_and_fates(self):
        self.refused("NoBalloon", self.book.tried, "nobody", ("sideways",) * 9)
        for name in NOT_ALOFT:
            self.refused("NotAloft", self.book.tried, name, ("sideways",) * 9)


class Race(Asked):
    def test_those_aloft_or_landed(self):
        self.assertEqual(self.book.race(0, 0), ["one", "two", "down"])
        self.assertEqual(self.book.race(-3, -3), ["down", "one", "two"])
        self.assertEqual(self.book.race(2, 2), ["two", "one", "down"])

    def test_equally_near_ones(self):
        book = Book([], [])
        book.launch("a", (1, 0, 0, 2, 2))
        book.launch("b", (0, 1, 1, 3, 2))
        book.launch("c", (-1, 0, 2, 0, 3))
        book.launch("d", (0, -1, 3, 3, 2))
        self.assertEqual(book.race(0, 0), ["c", "b", "d", "a"])

    def test_places(self):
        for x, y in ((FAR, 0), (-FAR, 0), (0, FAR), (0, -FAR)):
            self.refused("BadPlace", self.book.race, x, y)
        # All are equally far from there.
        self.assertEqual(self.book.race(999, -999), ["down", "one", "two"])

    def test_none(self):
        book = Book([], [])
        self.assertEqual(book.race(0, 0), [])
        book.launch("a", (0, 0, 0, 0, 0))
        book.lose("a")
        self.assertEqual(book.race(0, 0), [])


def spoil(told):
    """Changes all lists of what was told."""
    if isinstance(told, (list, tuple)):
        for part in told:
            spoil(part)
    if isinstance(told, list):
        told.reverse()
        told.append("x")


class WhatIsToldIsTheCallers(Asked):
    def test_told_lists_that_are_changed(self):
        calls = [
            (self.book.sky,), (self.book.done,), (self.book.names,), (self.book.log, "one"),
            (self.book.log, "down"), (self.book.log, "gone"), (self.book.sightings, "lost"),
            (self.book.where, "lost", 9), (self.book.race, 0, 0), (self.book.table, "one", 3),
            (self.book.ways, "one", 3, 0, 1), (self.book.paper, "one", 2, 9, 9),
            (self.book.meeting, "one", "two", 8), (self.book.tried, "one", ("level",))]
        for call in calls:
            told = call[0](*call[1:])
            before = copy.deepcopy(told)
            spoil(told)
            self.assertEqual(call[0](*call[1:]), before, call)

    def test_told_sightings_that_are_changed(self):
        book = self.book.twin()
        book.seen("lost", 9, (0, 0, 9, 9, 0, 5))
        book.sightings("lost").clear()
        self.assertEqual(len(book.sightings("lost")), 1)


class AToldWayIsFlown(unittest.TestCase):
    """[7], [8], [22], [23]: what is told ahead comes to be."""

    def test_ways(self):
        book = some_book()
        book.launch("three", (-5, 5, 1, 3, 3))
        for name, x, y in (("one", 0, 1), ("one", 0, -2), ("two", 3, 3), ("three", -3, 7)):
            for sacks, puffs, orders in book.ways(name, 5, x, y):
                other = book.twin()
                for rest in ("one", "two", "three"):
                    if rest != name:
                        other.lose(rest)
                for order in orders:
                    other.drift([(name, order)])
                self.assertEqual(other.state(name)[:2], (x, y))
                self.assertEqual(other.state(name)[3:], (sacks, puffs))
                self.assertEqual([told[1:] for told in other.log(name)], book.tried(name, orders))

    def test_there_are_some(self):
        self.assertNotEqual(some_book().ways("one", 5, 0, 1), [])
        self.assertNotEqual(some_book().ways("one", 5, 0, -2), [])


if __name__ == "__main__":
    unittest.main()

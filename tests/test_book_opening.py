"""The opening of a book: [20] and `Book(hills, cool)`, `lived`."""

import unittest

from ballastbook.book import Book, lived
from ballastbook.errors import BadHeight, BadHour, BadPlace, Full, NoBalloon, NotLow, Twice
from tests.plain_book import all_told

ALL_HOURS = list(range(24))


class Opening(unittest.TestCase):
    def refused(self, refusal, hills, cool):
        with self.assertRaises(refusal):
            Book(hills, cool)
        with self.assertRaises(refusal):
            lived(hills, cool, [])

    def test_nothing_told(self):
        book = Book([], [])
        self.assertEqual(book.now(), 0)
        self.assertEqual(book.sky(), ([], [], [], []))
        self.assertEqual(book.done(), [])
        self.assertEqual(book.names(), [])
        self.assertEqual(book.race(0, 0), [])

    def test_hills_and_cool_hours_as_they_were_handed_in(self):
        hills, cool = [(3, 4, 5), (-9, 2, 1), (3, 4, 5)], [7, 0, 23, 5]
        self.assertEqual(Book(hills, cool).sky(), (hills, cool, [], []))

    def test_20_and_21_hills(self):
        self.assertEqual(len(Book([(0, 0, 1)] * 20, []).sky()[0]), 20)
        self.refused(Full, [(0, 0, 1)] * 21, [])
        self.refused(Full, [(0, 0, 1)] * 40, [])

    def test_24_and_25_cool_hours(self):
        self.assertEqual(Book([], ALL_HOURS).sky()[1], ALL_HOURS)
        self.refused(Full, [], ALL_HOURS + [0])
        self.refused(Full, [], [5] * 25)
        self.refused(Twice, [], [5] * 24)

    def test_full_ahead_of_all_else(self):
        self.refused(Full, [(1000, 0, 9)] * 21, [-1])
        self.refused(Full, [(1000, 0, 9)], [-1] * 25)
        self.refused(Full, [(0, 0, 1)] * 21, ALL_HOURS + [0])

    def test_places_at_and_beyond_999(self):
        for x, y in ((999, 0), (-999, 0), (0, 999), (0, -999), (999, -999)):
            self.assertEqual(Book([(x, y, 1)], []).sky()[0], [(x, y, 1)])
        for x, y in ((1000, 0), (-1000, 0), (0, 1000), (0, -1000), (2000, 2000), (123456, 0)):
            self.refused(BadPlace, [(x, y, 1)], [])
            self.refused(BadPlace, [(0, 0, 1), (x, y, 1)], [])

    def test_tops(self):
        for top in range(1, 6):
            self.assertEqual(Book([(0, 0, top)], []).sky()[0], [(0, 0, top)])
        for top in (0, 6, -1, 100):
            self.refused(BadHeight, [(0, 0, top)], [])

    def test_cool_hours(self):
        for hour in (0, 1, 22, 23):
            self.assertEqual(Book([], [hour]).sky()[1], [hour])
        for hour in (-1, 24, 25, 1000):
            self.refused(BadHour, [], [hour])
            self.refused(BadHour, [], [3, hour])

    def test_one_told_twice(self):
        self.refused(Twice, [], [4, 4])
        self.refused(Twice, [], [4, 5, 6, 4])

    def test_hill_by_hill(self):
        self.refused(BadPlace, [(1000, 0, 9)], [])
        self.refused(BadHeight, [(0, 0, 6), (1000, 0, 1)], [])
        self.refused(BadPlace, [(0, 1000, 1), (0, 0, 6)], [])

    def test_cool_hour_by_cool_hour(self):
        self.refused(Twice, [], [4, 4, 24])
        self.refused(BadHour, [], [4, 24, 4])
        self.refused(BadHour, [], [24, 24])

    def test_hills_ahead_of_cool_hours(self):
        self.refused(BadPlace, [(1000, 0, 1)], [24])
        self.refused(BadHeight, [(0, 0, 0)], [4, 4])

    def test_lists_that_are_changed_behind_the_call(self):
        hills, cool = [(1, 0, 2)], [3]
        book = Book(hills, cool)
        hills.append((0, 0, 5))
        cool.clear()
        self.assertEqual(book.sky(), ([(1, 0, 2)], [3], [], []))
        self.assertEqual(book.launch("ann", (0, 0, 0, 0, 0)), 1)

    def test_lists_stay_as_they_were(self):
        hills, cool = [(1, 0, 2)], [3]
        book = Book(hills, cool)
        book.launch("ann", (0, 0, 2, 1, 1))
        book.wind(0, 2, 1, 0)
        book.drift([])
        self.assertEqual((hills, cool), ([(1, 0, 2)], [3]))


class Lived(unittest.TestCase):
    deeds = [
        ("wind", 0, 2, 1, 0), ("shut", -9, 2, -5, 9, 0, 3, 1, 24), ("launch", "ann", 0, 0, 2, 3, 3),
        ("launch", "bo", 4, 4, 1, 3, 3), ("launch", "c", 1, 1, 0, 0, 0), ("drift", (("bo", "down"),)),
        ("land", "c"), ("lose", "ann"), ("drift", ()), ("seen", "ann", 2, 0, -9, 9, 9, 0, 5),
        ("unseen", "ann", 1, 9, 9, 9, 9, 0, 5), ("regain", "ann", 2, 0, 2, 3, 3), ("lose", "bo"),
    ]

    def did(self):
        book = Book([(5, 5, 2)], [7, 1])
        book.wind(0, 2, 1, 0)
        book.shut((-9, 2, -5, 9, 0, 3), 1, 24)
        book.launch("ann", (0, 0, 2, 3, 3))
        book.launch("bo", (4, 4, 1, 3, 3))
        book.launch("c", (1, 1, 0, 0, 0))
        book.drift([("bo", "down")])
        book.land("c")
        book.lose("ann")
        book.drift([])
        return book

    def test_no_deeds(self):
        self.assertEqual(lived([(0, 0, 2)], [4], []).sky(), ([(0, 0, 2)], [4], [], []))

    def test_alike_to_a_book_that_did_the_same(self):
        book = self.did()
        self.assertEqual(all_told(lived([(5, 5, 2)], [7, 1], self.deeds[:9])), all_told(book))
        # Hour 1 is cool: the balloon that flies level at height 2 sinks out of the wind.
        book.seen("ann", 2, (0, -9, 9, 9, 0, 5))
        book.unseen("ann", 1, (9, 9, 9, 9, 0, 5))
        state = book.where("ann", 2)[-1]
        book.regain("ann", state)
        book.lose("bo")
        deeds = self.deeds[:11] + [("regain", "ann") + state, ("lose", "bo")]
        other = lived([(5, 5, 2)], [7, 1], deeds)
        self.assertEqual(all_told(other), all_told(book))
        self.assertEqual(other.done(), deeds)

    def test_no_holds(self):
        with self.assertRaises(ValueError):
            lived([], [], [("wind", 0, 0, 1, 1)]).back(1)

    def test_refused_as_the_first_deed_that_is_refused(self):
        with self.assertRaises(NoBalloon):
            lived([], [], [("wind", 0, 0, 1, 1), ("land", "ann"), ("wind", 99, 0, 0, 0)])
        with self.assertRaises(NotLow):
            lived([], [], [("launch", "ann", 0, 0, 1, 0, 0), ("land", "ann"), ("land", "bo")])
        with self.assertRaises(Full):
            lived([], [], [("wind", 0, 0, 1, 1)] * 61)

    def test_the_opening_ahead_of_the_deeds(self):
        with self.assertRaises(BadPlace):
            lived([(1000, 0, 1)], [], [("land", "ann")])

    def test_the_handed_list_stays_and_is_not_kept(self):
        deeds = list(self.deeds[:9])
        book = lived([], [], deeds)
        self.assertEqual(deeds, self.deeds[:9])
        deeds.clear()
        self.assertEqual(book.done(), self.deeds[:9])


if __name__ == "__main__":
    unittest.main()

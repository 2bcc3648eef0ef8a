"""The deeds of a book: [20] to [23]."""

import itertools
import unittest

from ballastbook.book import Book, lived
from tests.plain_book import all_told, do, outcome

# An x or y beyond the edge of a book.
FAR = 1000


def with_aloft(*names, hills=(), cool=(), state=(0, 0, 2, 3, 3)):
    book = Book(list(hills), list(cool))
    for name in names:
        book.launch(name, state)
    return book


def drifted(book, hours):
    for number in range(hours):
        book.drift([])
    return book


class Deeds(unittest.TestCase):
    def told(self, book, *deed):
        """Does a deed that is told; looks whether it is noted as it was."""
        before = book.done()
        self.assertEqual(outcome(do, book, deed), ("told", len(before) + 1))
        self.assertEqual(book.done(), before + [deed])

    def refused(self, refusal, book, *deed):
        """Tries a deed that is refused; looks whether nothing is done."""
        before = all_told(book)
        if isinstance(refusal, str):
            refusal = (refusal,)
        self.assertEqual(outcome(do, book, deed), refusal)
        self.assertEqual(all_told(book), before, deed)

    def first_counts(self, book, kind, good, wrong):
        """Spoils a deed at some of the places told by wrong: the first of them counts.

        good is the list of its parts, wrong a list of pairs of a refusal and a dict of parts.
        """
        for size in range(1, 3):
            for spoilt in itertools.combinations(wrong, size):
                parts = list(good)
                for refusal, changes in reversed(spoilt):
                    for at, part in changes.items():
                        parts[at] = part
                self.refused(spoilt[0][0], book, kind, *parts)


class Full(Deeds):
    deeds = [
        ("wind", 0, 0, 0, 0), ("shut", 0, 0, 0, 0, 0, 0, 9, 9), ("launch", "c", 0, 0, 0, 0, 0),
        ("drift", ()), ("land", "ann"), ("lose", "ann"), ("seen", "bo", 0, 0, 0, 0, 0, 0, 5),
        ("unseen", "bo", 0, 5, 5, 5, 5, 0, 5), ("regain", "bo", 0, 0, 0, 0, 0)]
    # Each wrong in all of its parts.
    wrong = [
        ("wind", -5, -5, -5, -5), ("shut", FAR, 0, 0, 0, 9, 0, 99, -9), ("launch", "A", FAR, 0, 9, 9, 9),
        ("drift", (("x", "y"),)), ("land", "x"), ("lose", "x"), ("seen", "x", 99, FAR, 0, 0, 0, 9, 0),
        ("unseen", "x", 99, FAR, 0, 0, 0, 9, 0), ("regain", "x", FAR, 0, 9, 9, 9)]

    def test_at_60_deeds_ahead_of_all_else(self):
        book = with_aloft("ann", "bo", state=(0, 0, 0, 0, 0))
        book.lose("bo")
        for number in range(4, 61):
            for deed in self.deeds if number == 60 else ():
                self.assertEqual(outcome(do, book.twin(), deed), ("told", 60), deed)
            self.assertEqual(book.wind(23, 5, 0, 0), number)
        for deed in self.deeds + self.wrong:
            self.refused("Full", book, *deed)

    def test_at_hour_24_too(self):
        for winds, refusal in ((35, "Late"), (36, "Full")):
            book = Book([], [])
            for number in range(winds):
                book.wind(0, 0, 0, 0)
            self.refused(refusal, drifted(book, 24), "drift", ())


class Wind(Deeds):
    def test_told_in_their_order(self):
        book = Book([], [])
        winds = [(0, 5, 2, -2), (23, 0, -2, 2), (4, 1, 0, 0), (4, 1, 1, 1), (0, 5, 1, 1)]
        for wind in winds:
            self.told(book, "wind", *wind)
        self.assertEqual(book.sky()[2], winds)

    def test_what_it_tells(self):
        book = Book([], [])
        self.assertEqual([book.wind(0, 0, 1, 1), book.wind(0, 0, 1, 1)], [1, 2])

    def test_at_the_books_hour_ahead_of_it_and_behind_it(self):
        for now in (0, 1, 5, 23):
            book = drifted(Book([], []), now)
            for first in range(24):
                if first < now:
                    self.refused("Past", book, "wind", first, 0, 1, 1)
                else:
                    self.told(book.twin(), "wind", first, 0, 1, 1)

    def test_at_hour_24_all_are_past(self):
        book = drifted(Book([], []), 24)
        self.refused("Past", book, "wind", 23, 0, 1, 1)
        self.refused("BadHour", book, "wind", 24, 0, 1, 1)

    def test_each_refusal(self):
        book = Book([], [])
        for first in (-1, 24, 25, -100):
            self.refused("BadHour", book, "wind", first, 0, 1, 1)
        for height in (-1, 6, 100):
            self.refused("BadHeight", book, "wind", 0, height, 1, 1)
        for dx, dy in ((-3, 0), (3, 0), (0, -3), (0, 3), (99, -99)):
            self.refused("BadWind", book, "wind", 0, 0, dx, dy)

    def test_the_first_counts(self):
        book = drifted(Book([], []), 4)
        self.first_counts(book, "wind", [5, 3, 1, 1], [
            ("BadHour", {0: 24}), ("Past", {0: 3}), ("BadHeight", {1: 6}), ("BadWind", {2: 3})])
        self.first_counts(book, "wind", [5, 3, 1, 1], [
            ("BadHour", {0: -1}), ("BadHeight", {1: -1}), ("BadWind", {3: -3})])

    def test_it_alters_what_comes_from_its_first_hour_on(self):
        book = with_aloft("ann")
        book.wind(0, 2, 1, 0)
        book.drift([])
        book.wind(1, 2, 0, 1)
        book.wind(3, 2, -1, 0)
        drifted(book, 3)
        self.assertEqual([told[1:3] for told in book.log("ann")], [(0, 0), (1, 0), (1, 1), (1, 2), (0, 2)])


class Shut(Deeds):
    def test_told_in_their_order(self):
        book = Book([], [])
        shuts = [(0, 0, 5, 5, 0, 5, 1, 24), (-999, -999, 999, 999, 0, 0, 24, 24), (3, 3, 3, 3, 3, 3, 7, 8)]
        for shut in shuts:
            self.told(book, "shut", *shut)
        self.assertEqual(book.sky()[3], shuts)

    def test_at_the_books_hour_ahead_of_it_and_behind_it(self):
        for now in (0, 1, 5, 24):
            book = drifted(Book([], []), now)
            for first in range(25):
                if first <= now:
                    self.refused("Past", book, "shut", 0, 0, 0, 0, 0, 0, first, 24)
                else:
                    self.told(book.twin(), "shut", 0, 0, 0, 0, 0, 0, first, 24)

    def test_each_refusal(self):
        book = Book([], [])
        for box in ((1, 0, 0, 0, 0, 0), (0, 1, 0, 0, 0, 0), (0, 0, 0, 0, 1, 0), (0, 0, 0, 0, -1, 0),
                    (0, 0, 0, 0, 0, 6), (FAR, 0, FAR, 0, 0, 0), (0, -FAR, 0, 0, 0, 0), (-FAR, 0, 0, 0, 0, 0)):
            self.refused("BadBox", book, "shut", *box, 5, 6)
        for first, last in ((-1, 5), (5, 25), (25, 25), (6, 5), (24, 23), (-2, -1), (5, -1)):
            self.refused("BadHour", book, "shut", 0, 0, 0, 0, 0, 0, first, last)

    def test_the_first_counts(self):
        book = drifted(Book([], []), 4)
        self.first_counts(book, "shut", [0, 0, 1, 1, 0, 1, 5, 9], [
            ("BadBox", {0: 2}), ("BadHour", {7: 25}), ("Past", {6: 4})])
        self.refused("BadHour", book, "shut", 0, 0, 1, 1, 0, 1, 3, 2)
        self.refused("Past", book, "shut", 0, 0, 1, 1, 0, 1, 0, 0)

    def test_it_stops_from_its_first_hour_to_its_last(self):
        book = with_aloft("ann")
        book.shut((0, 0, 0, 0, 2, 2), 2, 3)
        book.drift([])
        self.refused(("Stopped", 0, "shut"), book, "drift", ())
        self.told(book, "drift", (("ann", "up"),))
        self.refused(("Stopped", 0, "shut"), book, "drift", (("ann", "down"),))
        self.told(book, "drift", ())
        self.told(book, "drift", (("ann", "down"),))


class Launch(Deeds):
    def test_it_is_aloft_at_the_books_hour(self):
        book = drifted(Book([], []), 3)
        self.told(book, "launch", "ann", 5, -6, 2, 0, 6)
        self.assertEqual(book.status("ann"), "aloft")
        self.assertEqual(book.state("ann"), (5, -6, 2, 0, 6))
        self.assertEqual(book.log("ann"), [(3, 5, -6, 2, 0, 6)])

    def test_at_the_bounds(self):
        for state in ((999, -999, 0, 0, 0), (-999, 999, 5, 6, 6)):
            self.told(Book([], []), "launch", "ann", *state)
        self.told(drifted(Book([], []), 24), "launch", "ann", 0, 0, 0, 0, 0)

    def test_six_balloons(self):
        book = with_aloft("a", "b", "c", "d", "e")
        self.told(book, "launch", "f", 0, 0, 0, 0, 0)
        self.refused("Full", book, "launch", "g", 0, 0, 0, 0, 0)
        self.refused("Full", book, "launch", "A", FAR, 0, 9, 9, 9)
        self.assertEqual(book.names(), ["a", "b", "c", "d", "e", "f"])

    def test_landed_lost_and_gone_ones_count_among_the_six(self):
        book = with_aloft("a", "b", "c", "d", "e", "f", state=(0, 0, 0, 0, 0))
        book.land("a")
        book.lose("b")
        drifted(book, 9)
        book.lose("c")
        self.assertEqual([book.status(name) for name in "abc"], ["landed", "gone", "lost"])
        self.refused("Full", book, "launch", "g", 0, 0, 0, 0, 0)

    def test_names(self):
        for name in ("a", "z", "abcdef", "zzzzzz", "aa"):
            self.told(Book([], []), "launch", name, 0, 0, 0, 0, 0)
        for name in ("", "abcdefg", "A", "aB", "a1", "a b", " a", "a ", "a-b", "a_b", "{", "`", "a\n", "\u00e9", "0"):
            self.refused("BadName", Book([], []), "launch", name, 0, 0, 0, 0, 0)

    def test_names_are_taken_for_ever(self):
        book = with_aloft("ann", "bo", "c", "dora", state=(0, 0, 0, 0, 0))
        book.land("ann")
        book.lose("bo")
        drifted(book, 9)
        book.lose("c")
        for name, fate in (("ann", "landed"), ("bo", "gone"), ("c", "lost"), ("dora", "aloft")):
            self.assertEqual(book.status(name), fate)
            self.refused("Taken", book, "launch", name, 1, 1, 1, 1, 1)
            self.refused("Taken", book, "launch", name, FAR, 1, 9, 9, 9)

    def test_each_refusal(self):
        book = Book([], [])
        for x, y in ((FAR, 0), (-FAR, 0), (0, FAR), (0, -FAR)):
            self.refused("BadPlace", book, "launch", "ann", x, y, 0, 0, 0)
        for height in (-1, 6):
            self.refused("BadHeight", book, "launch", "ann", 0, 0, height, 0, 0)
        for sacks, puffs in ((-1, 0), (7, 0), (0, -1), (0, 7)):
            self.refused("BadLoad", book, "launch", "ann", 0, 0, 0, sacks, puffs)

    def test_where_it_may_not_stand(self):
        book = Book([(0, 0, 3), (1, 0, 3)], [])
        book.shut((1, 0, 2, 0, 0, 5), 1, 2)
        for height, told in ((2, "hill"), (3, None), (4, None)):
            if told is None:
                self.told(book.twin(), "launch", "ann", 0, 0, height, 0, 0)
            else:
                self.refused(("Stopped", 0, "hill"), book, "launch", "ann", 0, 0, height, 0, 0)
        self.told(book.twin(), "launch", "ann", 2, 0, 2, 0, 0)
        for hour in (1, 2):
            book.drift([])
            self.refused(("Stopped", 0, "shut"), book, "launch", "ann", 2, 0, 2, 0, 0)
            self.refused(("Stopped", 0, "shut"), book, "launch", "ann", 1, 0, 3, 0, 0)
            self.refused(("Stopped", 0, "hill"), book, "launch", "ann", 1, 0, 2, 0, 0)
        book.drift([])
        self.told(book, "launch", "ann", 2, 0, 2, 0, 0)

    def test_0_is_told_whatever_its_number_would_be(self):
        book = with_aloft("ann", "bo", hills=[(5, 5, 1)])
        self.refused(("Stopped", 0, "hill"), book, "launch", "c", 5, 5, 0, 0, 0)

    def test_the_first_counts(self):
        book = with_aloft("ann", hills=[(5, 5, 1), (999, 999, 5)])
        self.first_counts(book, "launch", ["bo", 5, 5, 2, 3, 3], [
            ("BadName", {0: "Bo"}), ("Taken", {0: "ann"}), ("BadPlace", {1: FAR}), ("BadHeight", {3: 6}),
            ("BadLoad", {4: 7}), (("Stopped", 0, "hill"), {3: 0})])


class Drift(Deeds):
    def test_an_hour_passes(self):
        book = Book([], [])
        for hour in range(24):
            self.assertEqual(book.now(), hour)
            self.told(book, "drift", ())
        self.assertEqual(book.now(), 24)
        self.refused("Late", book, "drift", ())

    def test_late_ahead_of_the_pairs(self):
        book = drifted(with_aloft("ann"), 24)
        self.refused("Late", book, "drift", (("x", "y"),))
        self.refused("Late", book, "drift", (("ann", "level"), ("ann", "level")))

    def test_those_that_are_not_named_fly_level(self):
        book = with_aloft("ann", "bo", "c")
        book.wind(0, 1, 1, 0)
        book.wind(0, 2, 0, 1)
        book.wind(0, 3, -1, 0)
        self.told(book, "drift", (("c", "down"), ("ann", "up")))
        self.assertEqual([book.state(name) for name in ("ann", "bo", "c")],
                         [(-1, 0, 3, 2, 3), (0, 1, 2, 3, 3), (1, 0, 1, 3, 2)])
        self.told(book, "drift", ())
        self.assertEqual([book.state(name) for name in ("ann", "bo", "c")],
                         [(-2, 0, 3, 2, 3), (0, 2, 2, 3, 3), (2, 0, 1, 3, 2)])
        self.told(book, "drift", (("ann", "level"), ("bo", "level"), ("c", "up")))
        self.assertEqual([book.state(name) for name in ("ann", "bo", "c")],
                         [(-3, 0, 3, 2, 3), (0, 3, 2, 3, 3), (2, 1, 2, 2, 2)])

    def test_cool_hours(self):
        book = with_aloft("ann", "bo", cool=[0])
        book.wind(0, 1, 1, 0)
        book.drift([("bo", "up")])
        self.assertEqual([book.state("ann"), book.state("bo")], [(1, 0, 1, 3, 3), (0, 0, 2, 2, 3)])

    def test_landed_ones_stay(self):
        book = with_aloft("ann", state=(4, 5, 0, 1, 1))
        for height in range(6):
            book.wind(0, height, 2, 2)
        book.land("ann")
        drifted(book, 3)
        self.assertEqual(book.state("ann"), (4, 5, 0, 1, 1))
        self.assertEqual(book.log("ann"), [(0, 4, 5, 0, 1, 1)])

    def test_landed_and_lost_ones_stop_nothing(self):
        book = with_aloft("ann", "bo", "c", state=(0, 0, 0, 0, 0))
        book.land("ann")
        book.lose("bo")
        book.shut((0, 0, 0, 0, 0, 5), 1, 24)
        self.refused(("Stopped", 2, "shut"), book, "drift", ())
        book.lose("c")
        self.told(book, "drift", ())

    def test_pair_by_pair(self):
        book = with_aloft("ann", "bo", "c", "dora", state=(0, 0, 0, 3, 3))
        book.land("bo")
        book.lose("c")
        for name in ("bo", "c"):
            self.refused("NotAloft", book, "drift", ((name, "level"),))
            self.refused("NotAloft", book, "drift", ((name, "sideways"),))
            self.refused("NotAloft", book, "drift", (("ann", "level"), (name, "level"), (name, "level")))
        for name in ("x", "", "Ann", "nobody"):
            self.refused("NoBalloon", book, "drift", ((name, "level"),))
            self.refused("NoBalloon", book, "drift", (("ann", "level"), (name, "sideways")))
        for order in ("", "UP", "sideways", "up ", "left"):
            self.refused("BadOrder", book, "drift", (("ann", order),))
            self.refused("BadOrder", book, "drift", (("ann", order), ("ann", "up")))
        self.refused("Twice", book, "drift", (("ann", "up"), ("ann", "up")))
        self.refused("Twice", book, "drift", (("ann", "up"), ("dora", "up"), ("ann", "sideways")))
        self.refused("Twice", book, "drift", (("ann", "up"), ("ann", "up"), ("x", "up")))
        self.refused("NoBalloon", book, "drift", (("x", "up"), ("bo", "up"), ("ann", "sideways")))
        self.refused("BadOrder", book, "drift", (("ann", "sideways"), ("x", "up"), ("bo", "up")))

    def test_a_gone_one_is_not_aloft(self):
        book = with_aloft("ann")
        book.lose("ann")
        drifted(book, 9)
        self.refused("NotAloft", book, "drift", (("ann", "level"),))

    def test_pairs_ahead_of_stopped(self):
        book = with_aloft("ann", "bo", state=(0, 0, 5, 1, 1))
        self.refused("NoBalloon", book, "drift", (("ann", "up"), ("x", "up")))
        self.refused("BadOrder", book, "drift", (("ann", "up"), ("bo", "x")))
        self.refused(("Stopped", 0, "high"), book, "drift", (("bo", "up"), ("ann", "up")))

    def test_each_reason(self):
        book = Book([(1, 0, 4)], [])
        book.wind(0, 3, 1, 0)
        book.wind(0, 1, 0, 1)
        book.shut((0, 1, 0, 1, 1, 1), 1, 1)
        book.launch("a", (0, 0, 2, 1, 1))
        for order, state, why in (
                ("up", (0, 0, 5, 0, 0), "sacks"), ("down", (0, 0, 0, 0, 0), "puffs"),
                ("up", (0, 0, 5, 1, 0), "high"), ("down", (0, 0, 0, 0, 1), "low"),
                ("up", (0, 0, 2, 1, 1), "hill"), ("down", (0, 0, 2, 1, 1), "shut")):
            other = book.twin()
            other.launch("b", state)
            self.refused(("Stopped", 1, why), other, "drift", (("b", order),))

    def test_the_number_is_counted_among_all_that_were_launched(self):
        book = with_aloft("a", "b", "c", "d", state=(0, 0, 0, 0, 0))
        book.land("a")
        book.lose("b")
        self.refused(("Stopped", 2, "sacks"), book, "drift", (("d", "up"), ("c", "up")))
        self.refused(("Stopped", 3, "sacks"), book, "drift", (("d", "up"), ("c", "level")))
        drifted(book, 9)
        self.refused(("Stopped", 3, "puffs"), book, "drift", (("d", "down"),))

    def test_what_one_that_is_stopped_leaves_undone(self):
        book = with_aloft("ann", "bo")
        book.launch("c", (0, 0, 0, 0, 0))
        book.lose("bo")
        self.refused(("Stopped", 2, "sacks"), book, "drift", (("ann", "up"), ("c", "up")))
        self.assertEqual(book.state("ann"), (0, 0, 2, 3, 3))

    def test_it_is_noted_as_it_was_handed_in(self):
        book = with_aloft("ann", "bo")
        orders = [("bo", "up"), ("ann", "level")]
        book.drift(orders)
        self.assertEqual(orders, [("bo", "up"), ("ann", "level")])
        orders.clear()
        self.assertEqual(book.done()[-1], ("drift", (("bo", "up"), ("ann", "level"))))
        book.drift([])
        self.assertEqual(book.done()[-1], ("drift", ()))

    def test_beyond_999(self):
        book = with_aloft("ann", state=(999, -999, 2, 0, 0))
        book.wind(0, 2, 2, -2)
        drifted(book, 2)
        self.assertEqual(book.state("ann"), (1003, -1003, 2, 0, 0))


class Land(Deeds):
    def test_on_the_ground_and_above_it(self):
        hills = [(5, 5, 3), (5, 5, 1)]
        for x, y, ground in ((0, 0, 0), (5, 5, 3)):
            for height in range(ground, 6):
                book = with_aloft("ann", hills=hills, state=(x, y, height, 2, 1))
                if height > ground:
                    self.refused("NotLow", book, "land", "ann")
                else:
                    self.told(book, "land", "ann")
                    self.assertEqual(book.status("ann"), "landed")
                    self.assertEqual(book.state("ann"), (x, y, height, 2, 1))
                    self.assertEqual(book.log("ann"), [(0, x, y, height, 2, 1)])

    def test_refusals(self):
        book = with_aloft("a", "b", "c", "d", state=(0, 0, 0, 0, 0))
        book.land("a")
        book.lose("b")
        drifted(book, 9)
        book.lose("c")
        for name in ("x", "", "A"):
            self.refused("NoBalloon", book, "land", name)
        for name in "abc":
            self.refused("NotAloft", book, "land", name)
        self.told(book, "land", "d")


class Lose(Deeds):
    def test_it_is_lost(self):
        book = drifted(with_aloft("ann"), 2)
        self.told(book, "lose", "ann")
        self.assertEqual(book.status("ann"), "lost")
        self.assertEqual(outcome(book.state, "ann"), ("OutOfSight",))
        self.assertEqual(book.sightings("ann"), [])
        self.assertEqual(book.where("ann", 2), [(0, 0, 2, 3, 3)])
        self.assertEqual(len(book.log("ann")), 3)
        book.drift([])
        self.assertEqual(len(book.log("ann")), 3)

    def test_refusals(self):
        book = with_aloft("a", "b", "c", state=(0, 0, 0, 0, 0))
        book.land("a")
        book.lose("b")
        drifted(book, 9)
        book.lose("c")
        self.refused("NoBalloon", book, "lose", "x")
        for name in "abc":
            self.refused("NotAloft", book, "lose", name)

    def test_for_8_hours_and_for_more(self):
        for begun in (0, 5, 15):
            book = drifted(with_aloft("ann", "bo"), begun)
            book.lose("ann")
            for hours in range(1, 10):
                book.drift([])
                self.assertEqual(book.status("ann"), "lost" if hours <= 8 else "gone", hours)
                if hours == 8:
                    self.assertEqual(len(book.where("ann", begun)), 1)
            self.assertEqual(book.status("bo"), "aloft")

    def test_gone_for_ever(self):
        book = with_aloft("ann")
        book.lose("ann")
        drifted(book, 9)
        for hours in range(3):
            self.refused("NotLost", book, "regain", "ann", 0, 0, 2, 3, 3)
            self.refused("NotLost", book, "seen", "ann", 0, 0, 0, 0, 0, 0, 5)
            self.refused("NotAloft", book, "lose", "ann")
            self.assertEqual(book.status("ann"), "gone")
            self.assertEqual(outcome(book.where, "ann", 0), ("NotLost",))
            self.assertEqual(outcome(book.sightings, "ann"), ("NotLost",))
            self.assertEqual(book.log("ann"), [(0, 0, 0, 2, 3, 3)])
            book.drift([])

    def test_the_last_hour_comes_ahead(self):
        book = drifted(with_aloft("ann"), 16)
        book.lose("ann")
        drifted(book, 8)
        self.assertEqual((book.now(), book.status("ann")), (24, "lost"))

    def test_a_lost_one_that_can_not_fly_on(self):
        # Shut everywhere: nothing is possible any more, but the hours pass.
        book = with_aloft("ann")
        book.shut((-999, -999, 999, 999, 0, 5), 2, 2)
        book.lose("ann")
        drifted(book, 3)
        self.assertEqual(book.status("ann"), "lost")
        self.assertEqual(outcome(book.where, "ann", 0), ("NothingFits", 2))
        self.refused(("NothingFits", 2), book, "regain", "ann", 0, 0, 2, 3, 3)
        self.refused(("NothingFits", 2), book, "seen", "ann", 3, 0, 0, 0, 0, 2, 2)
        self.refused(("NothingFits", 1), book, "unseen", "ann", 1, -9, -9, 9, 9, 0, 5)


class SeenAndUnseen(Deeds):
    # Height 1 leads east, height 2 north, height 3 south.
    def lost(self, begun=0, hours=2):
        book = with_aloft("ann")
        for wind in ((0, 1, 1, 0), (0, 2, 0, 1), (0, 3, 0, -1)):
            book.wind(*wind)
        for number in range(begun):
            book.drift([("ann", "level")])
        book.lose("ann")
        return drifted(book, hours)

    def test_told_in_their_order(self):
        book = self.lost()
        self.told(book, "seen", "ann", 2, -9, -9, 9, 9, 0, 5)
        self.told(book, "unseen", "ann", 1, 1, 0, 1, 0, 0, 5)
        self.told(book, "unseen", "ann", 1, 1, 0, 1, 0, 0, 5)
        self.told(book, "seen", "ann", 0, 0, 0, 0, 0, 2, 2)
        self.assertEqual(book.sightings("ann"), [
            (2, -9, -9, 9, 9, 0, 5, True), (1, 1, 0, 1, 0, 0, 5, False), (1, 1, 0, 1, 0, 0, 5, False),
            (0, 0, 0, 0, 0, 2, 2, True)])

    def test_they_leave_less(self):
        book = self.lost(hours=1)
        self.assertEqual(book.where("ann", 1), [(0, -1, 3, 2, 3), (0, 1, 2, 3, 3), (1, 0, 1, 3, 2)])
        book.unseen("ann", 1, (0, -1, 0, -1, 0, 5))
        self.assertEqual(book.where("ann", 1), [(0, 1, 2, 3, 3), (1, 0, 1, 3, 2)])
        book.seen("ann", 1, (0, 0, 0, 9, 0, 5))
        self.assertEqual(book.where("ann", 1), [(0, 1, 2, 3, 3)])

    def test_a_later_one_bars_earlier_hours_too(self):
        book = self.lost(hours=2)
        book.seen("ann", 2, (2, 0, 2, 0, 0, 5))
        self.assertEqual(book.where("ann", 1), [(1, 0, 1, 3, 2)])

    def test_they_hold_for_the_hours_to_come(self):
        book = self.lost(hours=1)
        book.seen("ann", 1, (1, 0, 1, 0, 1, 1))
        book.drift([])
        self.assertEqual([state[:3] for state in book.where("ann", 2)], [(1, 0, 0), (1, 1, 2), (2, 0, 1)])

    def test_hours(self):
        book = self.lost(begun=2, hours=3)
        for kind in ("seen", "unseen"):
            box = (-99, -99, 99, 99, 0, 5) if kind == "seen" else (99, 99, 99, 99, 0, 5)
            for hour in range(-1, 9):
                if 2 <= hour <= 5:
                    self.told(book.twin(), kind, "ann", hour, *box)
                else:
                    self.refused("BadHour", book, kind, "ann", hour, *box)

    def test_boxes(self):
        book = self.lost()
        for kind in ("seen", "unseen"):
            for box in ((1, 0, 0, 0, 0, 0), (0, 1, 0, 0, 0, 0), (0, 0, 0, 0, 1, 0), (0, 0, 0, 0, -1, 0),
                        (0, 0, 0, 0, 0, 6), (0, 0, FAR, 0, 0, 0), (0, -FAR, 0, 0, 0, 0)):
                self.refused("BadBox", book, kind, "ann", 1, *box)
        self.told(book, "seen", "ann", 1, -999, -999, 999, 999, 0, 5)

    def test_nothing_fits(self):
        book = self.lost(hours=2)
        self.refused(("NothingFits", 0), book, "unseen", "ann", 0, 0, 0, 0, 0, 2, 2)
        self.refused(("NothingFits", 1), book, "seen", "ann", 1, 5, 5, 5, 5, 0, 5)
        self.refused(("NothingFits", 2), book, "seen", "ann", 2, 5, 5, 5, 5, 0, 5)

    def test_nothing_fits_with_all_told_ahead_of_it(self):
        book = self.lost(hours=2)
        book.seen("ann", 2, (2, 0, 2, 0, 0, 5))
        # Alone it could be; with the one ahead of it, only flights up to hour 1 fit.
        self.refused(("NothingFits", 2), book, "seen", "ann", 1, 0, 1, 0, 1, 0, 5)
        other = self.lost(hours=2)
        self.told(other, "seen", "ann", 1, 0, 1, 0, 1, 0, 5)
        self.refused(("NothingFits", 2), other, "seen", "ann", 2, 2, 0, 2, 0, 0, 5)

    def test_refusals(self):
        book = with_aloft("a", "b", "c", "d", state=(0, 0, 0, 0, 0))
        book.land("a")
        book.lose("b")
        drifted(book, 9)
        book.lose("c")
        for kind in ("seen", "unseen"):
            self.refused("NoBalloon", book, kind, "x", 9, 0, 0, 0, 0, 0, 0)
            for name in "abd":
                self.refused("NotLost", book, kind, name, 9, 0, 0, 0, 0, 0, 0)
        self.told(book, "seen", "c", 9, 0, 0, 0, 0, 0, 0)

    def test_the_first_counts(self):
        book = self.lost(begun=1, hours=1)
        book.launch("bo", (0, 0, 2, 3, 3))
        for kind, nothing in (("seen", {2: 500, 4: 500}), ("unseen", {2: -500, 3: -500, 4: 500, 5: 500})):
            good = ["ann", 2, -50, -50, 50, 50, 0, 5] if kind == "seen" else ["ann", 2, 50, 50, 50, 50, 0, 5]
            self.first_counts(book, kind, good, [
                ("NoBalloon", {0: "x"}), ("NotLost", {0: "bo"}), ("BadHour", {1: 0}), ("BadBox", {6: 6}),
                (("NothingFits", 2), nothing)])


class Regain(Deeds):
    def lost(self):
        book = with_aloft("ann")
        for wind in ((0, 1, 1, 0), (0, 2, 0, 1), (0, 3, 0, -1)):
            book.wind(*wind)
        book.lose("ann")
        return drifted(book, 1)

    def test_each_state_that_is_possible(self):
        book = self.lost()
        for state in book.where("ann", 1):
            other = book.twin()
            self.told(other, "regain", "ann", *state)
            self.assertEqual(other.status("ann"), "aloft")
            self.assertEqual(other.state("ann"), state)
            self.assertEqual(other.log("ann"), [(0, 0, 0, 2, 3, 3), (1,) + state])
            self.assertEqual(outcome(other.sightings, "ann"), ("NotLost",))
            other.drift([])
            self.assertEqual(len(other.log("ann")), 3)

    def test_one_that_is_not_possible(self):
        book = self.lost()
        for state in ((0, 0, 2, 3, 3), (0, 1, 2, 2, 3), (0, 1, 2, 3, 2), (0, 1, 3, 3, 3), (1, 1, 2, 3, 3)):
            self.refused(("NothingFits", 1), book, "regain", "ann", *state)

    def test_one_that_is_not_possible_any_more(self):
        book = self.lost()
        book.unseen("ann", 1, (0, 1, 0, 1, 2, 2))
        self.refused(("NothingFits", 1), book, "regain", "ann", 0, 1, 2, 3, 3)
        self.told(book, "regain", "ann", 1, 0, 1, 3, 2)

    def test_the_hour_told_where_nothing_is_possible(self):
        book = self.lost()
        book.shut((-999, -999, 999, 999, 0, 5), 3, 3)
        drifted(book, 3)
        self.refused(("NothingFits", 3), book, "regain", "ann", 0, 4, 2, 3, 3)

    def test_at_once(self):
        book = with_aloft("ann")
        book.lose("ann")
        self.refused(("NothingFits", 0), book, "regain", "ann", 0, 0, 2, 3, 2)
        self.told(book, "regain", "ann", 0, 0, 2, 3, 3)
        self.assertEqual(book.log("ann"), [(0, 0, 0, 2, 3, 3), (0, 0, 0, 2, 3, 3)])

    def test_lost_again_from_then_on(self):
        book = self.lost()
        book.seen("ann", 1, (-9, -9, 9, 9, 0, 5))
        book.regain("ann", (0, 1, 2, 3, 3))
        drifted(book, 2)
        book.lose("ann")
        self.assertEqual(book.sightings("ann"), [])
        self.assertEqual(book.where("ann", 3), [(0, 3, 2, 3, 3)])
        self.assertEqual(outcome(book.where, "ann", 2), ("BadHour",))
        drifted(book, 8)
        self.assertEqual((book.now(), book.status("ann")), (11, "lost"))
        book.drift([])
        self.assertEqual(book.status("ann"), "gone")

    def test_refusals(self):
        book = with_aloft("a", "b", "c", "d", state=(0, 0, 0, 0, 0))
        book.land("a")
        book.lose("b")
        drifted(book, 9)
        book.lose("c")
        self.refused("NoBalloon", book, "regain", "x", 0, 0, 0, 0, 0)
        for name in "abd":
            self.refused("NotLost", book, "regain", name, 0, 0, 0, 0, 0)
        self.told(book, "regain", "c", 0, 0, 0, 0, 0)

    def test_the_first_counts(self):
        book = self.lost()
        book.launch("bo", (0, 0, 2, 3, 3))
        self.first_counts(book, "regain", ["ann", 0, 1, 2, 3, 3], [
            ("NoBalloon", {0: "x"}), ("NotLost", {0: "bo"}), ("BadPlace", {1: FAR}), ("BadHeight", {3: 6}),
            ("BadLoad", {4: 7}), (("NothingFits", 1), {5: 0})])
        self.first_counts(book, "regain", ["ann", 0, 1, 2, 3, 3], [
            ("BadPlace", {2: -FAR}), ("BadHeight", {3: -1}), ("BadLoad", {5: -1}), (("NothingFits", 1), {4: 0})])

    def test_beyond_999_it_can_not_be_told(self):
        book = Book([], [])
        book.wind(0, 2, 2, 0)
        book.launch("ann", (999, 0, 2, 0, 0))
        book.lose("ann")
        book.drift([])
        self.assertEqual(book.where("ann", 1), [(1001, 0, 2, 0, 0)])
        self.refused("BadPlace", book, "regain", "ann", 1001, 0, 2, 0, 0)


class Logs(Deeds):
    def test_launching_drifts_and_regainings(self):
        book = drifted(Book([], [3]), 1)
        book.wind(1, 2, 1, 0)
        book.launch("ann", (0, 0, 2, 1, 1))
        book.drift([])
        book.lose("ann")
        book.drift([])
        book.regain("ann", (2, 0, 2, 1, 1))
        book.drift([("ann", "down")])
        book.land("ann")
        book.drift([])
        self.assertEqual(book.log("ann"), [
            (1, 0, 0, 2, 1, 1), (2, 1, 0, 2, 1, 1), (3, 2, 0, 2, 1, 1), (4, 2, 0, 0, 1, 0)])
        self.assertEqual(lived([], [3], book.done()).log("ann"), book.log("ann"))


if __name__ == "__main__":
    unittest.main()

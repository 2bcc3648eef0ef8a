"""Holds, goings back and twins: [24]."""

import random
import unittest

from ballastbook.book import Book, lived
from tests.plain_book import PlainBook, all_told, do, outcome
from tests.some_deeds import some_deed, some_opening, some_plain_book


def begun():
    book = Book([(1, 1, 2)], [4])
    book.wind(0, 2, 1, 0)
    book.launch("ann", (0, 0, 2, 3, 3))
    return book


def alike(one, other):
    return all_told(one) == all_told(other)


class Holds(unittest.TestCase):
    def no_hold(self, book, *numbers):
        before = all_told(book)
        for number in numbers:
            self.assertEqual(outcome(book.back, number), ("NoHold",), number)
        self.assertEqual(all_told(book), before)

    def test_numbers_from_1_on(self):
        book = begun()
        self.assertEqual([book.hold() for number in range(4)], [1, 2, 3, 4])

    def test_holding_is_no_deed(self):
        book = begun()
        before = all_told(book)
        book.hold()
        self.assertEqual(all_told(book), before)
        self.assertEqual(book.wind(0, 1, 1, 1), 3)

    def test_numbers_that_are_no_hold(self):
        book = begun()
        self.no_hold(book, -1, 0, 1, 2)
        book.hold()
        book.hold()
        self.no_hold(book, -2, -1, 0, 3, 100)

    def test_back_makes_it_as_it_was(self):
        book = begun()
        before = all_told(book)
        book.hold()
        book.wind(0, 3, 1, 1)
        book.shut((5, 5, 6, 6, 0, 5), 3, 4)
        book.launch("bo", (0, 0, 0, 0, 0))
        book.drift([("ann", "up")])
        book.land("bo")
        book.lose("ann")
        book.drift([])
        book.seen("ann", 2, (-9, -9, 9, 9, 0, 5))
        self.assertNotEqual(all_told(book), before)
        self.assertEqual(book.back(1), 1)
        self.assertEqual(all_told(book), before)

    def test_back_to_one_twice(self):
        book = begun()
        before = all_told(book)
        book.hold()
        for order in ("up", "down", "level"):
            book.drift([("ann", order)])
            self.assertEqual(book.back(1), 1)
            self.assertEqual(all_told(book), before)
        self.assertEqual(book.back(1), 1)

    def test_sightings_and_the_lost_come_back_too(self):
        book = begun()
        book.lose("ann")
        book.drift([])
        book.unseen("ann", 1, (9, 9, 9, 9, 0, 5))
        before = all_told(book)
        book.hold()
        book.seen("ann", 1, (1, 0, 1, 0, 2, 2))
        book.regain("ann", (1, 0, 2, 3, 3))
        for hour in range(4):
            book.drift([])
        book.back(1)
        self.assertEqual(all_told(book), before)
        for hour in range(8):
            book.drift([])
        self.assertEqual(book.status("ann"), "gone")
        book.back(1)
        self.assertEqual(all_told(book), before)

    def test_greater_ones_are_gone(self):
        book = begun()
        for number in range(4):
            book.hold()
            book.drift([])
        book.back(2)
        self.assertEqual(book.now(), 1)
        self.no_hold(book, 3, 4, 5)
        self.assertEqual(book.back(2), 2)
        self.assertEqual(book.back(1), 1)
        self.assertEqual(book.now(), 0)
        self.no_hold(book, 2)

    def test_the_next_one_gets_the_number_behind_it(self):
        book = begun()
        for number in range(4):
            book.hold()
            book.drift([])
        book.back(2)
        self.assertEqual(book.hold(), 3)
        book.back(1)
        self.assertEqual(book.hold(), 2)

    def test_the_next_one_holds_what_is_done_then(self):
        book = begun()
        book.hold()
        book.drift([])
        book.hold()
        book.back(1)
        book.drift([("ann", "up")])
        book.drift([("ann", "down")])
        before = all_told(book)
        self.assertEqual(book.hold(), 2)
        book.lose("ann")
        book.back(2)
        self.assertEqual(all_told(book), before)
        self.assertEqual(book.now(), 2)

    def test_smaller_ones_stay_as_they_were(self):
        book = begun()
        tales = []
        for number in range(5):
            tales.append(all_told(book))
            book.hold()
            book.drift([("ann", ("up", "down", "level")[number % 3])])
        for number in range(5, 0, -1):
            book.back(number)
            self.assertEqual(all_told(book), tales[number - 1])

    def test_a_full_book(self):
        book = Book([], [])
        book.hold()
        for number in range(60):
            book.wind(0, 0, 0, 0)
        self.assertEqual(book.hold(), 2)
        self.assertEqual(book.back(1), 1)
        self.assertEqual(book.wind(0, 0, 0, 0), 1)


class Twins(unittest.TestCase):
    def test_it_answers_alike(self):
        book = begun()
        other = book.twin()
        self.assertIsInstance(other, Book)
        self.assertIsNot(other, book)
        self.assertTrue(alike(book, other))

    def test_what_is_done_with_the_one_is_not_seen_in_the_other(self):
        deeds = [("wind", 0, 3, 1, 1), ("shut", 5, 5, 6, 6, 0, 5, 3, 4), ("launch", "bo", 0, 0, 0, 0, 0),
                 ("drift", (("ann", "up"),)), ("land", "bo"), ("lose", "ann"), ("drift", ()),
                 ("seen", "ann", 1, -9, -9, 9, 9, 0, 5), ("unseen", "ann", 2, 9, 9, 9, 9, 0, 5)]
        for mine in (0, 1):
            pair = [begun()]
            pair.append(pair[0].twin())
            before = all_told(pair[0])
            for deed in deeds:
                do(pair[mine], deed)
                self.assertEqual(all_told(pair[1 - mine]), before, deed)
                self.assertTrue(alike(pair[mine], lived([(1, 1, 2)], [4], pair[mine].done())))

    def test_holds_too(self):
        book = begun()
        book.hold()
        book.drift([])
        book.hold()
        book.drift([])
        other = book.twin()
        self.assertEqual(other.hold(), 3)
        self.assertEqual(outcome(book.back, 3), ("NoHold",))
        self.assertEqual(other.back(1), 1)
        self.assertEqual((other.now(), book.now()), (0, 2))
        self.assertEqual(book.back(2), 2)
        self.assertEqual(book.now(), 1)
        self.assertEqual(outcome(other.back, 2), ("NoHold",))
        self.assertEqual(book.hold(), 3)
        self.assertEqual(other.hold(), 2)

    def test_holds_gone_back_to_in_both(self):
        book = begun()
        before = all_told(book)
        book.hold()
        other = book.twin()
        for one in (book, other):
            one.back(1)
            one.drift([("ann", "up")])
            one.wind(3, 3, 2, 2)
        for one in (other, book):
            one.back(1)
            self.assertEqual(all_told(one), before)

    def test_twins_of_twins(self):
        book = begun()
        books = [book, book.twin()]
        books.append(books[1].twin())
        books[1].drift([])
        books.append(books[1].twin())
        books[0].lose("ann")
        self.assertEqual([one.now() for one in books], [0, 1, 0, 1])
        self.assertEqual([one.status("ann") for one in books], ["lost", "aloft", "aloft", "aloft"])


class ByChance(unittest.TestCase):
    def test_holds_goings_back_and_twins(self):
        # The plain way: a hold is the list of the deeds, and a book is lived from them.
        chance = random.Random(310)
        for turn in range(25):
            hills, cool = some_opening(chance)
            book, deeds, holds = Book(hills, cool), [], []
            for number in range(50):
                plain = PlainBook(hills, cool)
                for deed in deeds:
                    plain.do(deed)
                choice = chance.random()
                if choice < 0.15:
                    holds.append(list(deeds))
                    self.assertEqual(book.hold(), len(holds))
                elif choice < 0.25:
                    number = chance.randint(0, len(holds) + 1)
                    if 1 <= number <= len(holds):
                        self.assertEqual(book.back(number), number)
                        deeds, holds = list(holds[number - 1]), holds[:number]
                    else:
                        self.assertEqual(outcome(book.back, number), ("NoHold",))
                elif choice < 0.3:
                    old, book = book, book.twin()
                    for deed in (("drift", ()), ("wind", 23, 0, 1, 1)):
                        outcome(do, old, deed)
                    outcome(old.back, 1)
                else:
                    deed = some_deed(chance, plain)
                    if outcome(do, book, deed)[0] == "told":
                        deeds.append(deed)
                self.assertEqual(book.done(), deeds)
            self.assertTrue(alike(book, lived(hills, cool, deeds)))

    def test_books_side_by_side(self):
        chance = random.Random(311)
        plains = [some_plain_book(chance) for number in range(4)]
        books = [Book(plain.hills, plain.cool) for plain in plains]
        rows = [(at, deed) for at, plain in enumerate(plains) for deed in plain.deeds]
        # Each book's deeds in their order, those of all books among one another.
        order = sorted(range(len(rows)), key=lambda at: chance.random())
        waiting = {at: iter(plain.deeds) for at, plain in enumerate(plains)}
        for place in order:
            at = rows[place][0]
            do(books[at], next(waiting[at]))
        for plain, book in zip(plains, books):
            self.assertTrue(alike(book, lived(plain.hills, plain.cool, plain.deeds)))


if __name__ == "__main__":
    unittest.main()

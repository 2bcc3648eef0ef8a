"""Pages: [25], [26] and the interface of ballastbook/pages.py."""

import random
import re
import unittest

from ballastbook.book import Book, lived
from ballastbook.errors import NoPage
from ballastbook.pages import deed_text, read_page, written
from tests.plain_book import all_told, outcome
from tests.some_deeds import some_plain_book

# Every kind of deed once, or more often.
PAGE = """book
hill 5 -5 2
hill -999 999 5
hill 5 -5 2
cool 7
cool 0
cool 23
wind 0 2 1 0
wind 23 0 -2 -2
shut -9 -9 -5 -5 0 5 1 24
launch ann 0 0 3 6 6
launch bo -4 4 1 0 6
launch c 1 1 0 0 0
drift ann up bo down
land c
lose ann
drift
unseen ann 2 90 -90 99 -80 0 5
seen ann 1 -99 -99 99 99 0 5
seen ann 2 0 0 4 0 2 4
regain ann 1 0 2 5 5
drift ann level"""


class DeedText(unittest.TestCase):
    def test_every_kind(self):
        for deed, text in (
                (("wind", 0, 5, -2, 2), "wind 0 5 -2 2"),
                (("shut", -999, -1, 999, 0, 0, 5, 1, 24), "shut -999 -1 999 0 0 5 1 24"),
                (("launch", "ann", -10, 20, 5, 0, 6), "launch ann -10 20 5 0 6"),
                (("drift", ()), "drift"),
                (("drift", (("bo", "up"),)), "drift bo up"),
                (("drift", (("bo", "up"), ("ann", "level"), ("c", "down"))), "drift bo up ann level c down"),
                (("land", "ann"), "land ann"),
                (("lose", "zzzzzz"), "lose zzzzzz"),
                (("seen", "ann", 24, -1, -2, 3, 4, 0, 5), "seen ann 24 -1 -2 3 4 0 5"),
                (("unseen", "ann", 0, -1, -2, 3, 4, 0, 5), "unseen ann 0 -1 -2 3 4 0 5"),
                (("regain", "ann", 999, -999, 0, 6, 0), "regain ann 999 -999 0 6 0")):
            self.assertEqual(deed_text(deed), text)


class Written(unittest.TestCase):
    def test_an_empty_book(self):
        self.assertEqual(written(Book([], [])), "book")

    def test_hills_and_cool_hours(self):
        self.assertEqual(written(Book([(1, -2, 3), (-4, 5, 1)], [])), "book\nhill 1 -2 3\nhill -4 5 1")
        self.assertEqual(written(Book([], [23, 0])), "book\ncool 23\ncool 0")

    def test_no_row_end_behind_the_last_row(self):
        book = Book([(1, -2, 3)], [4])
        book.drift([])
        self.assertEqual(written(book), "book\nhill 1 -2 3\ncool 4\ndrift")

    def test_refused_deeds_and_holds_are_not_written(self):
        book = Book([], [])
        book.hold()
        outcome(book.wind, 0, 9, 0, 0)
        book.wind(0, 5, 0, -1)
        self.assertEqual(written(book), "book\nwind 0 5 0 -1")
        book.back(1)
        self.assertEqual(written(book), "book")

    def test_it_changes_nothing(self):
        book = read_page(PAGE)
        before = all_told(book)
        written(book)
        self.assertEqual(all_told(book), before)


class ReadBack(unittest.TestCase):
    def test_a_page_with_every_kind_of_deed(self):
        book = read_page(PAGE)
        self.assertEqual(written(book), PAGE)
        self.assertEqual(book.now(), 3)
        self.assertEqual(book.sky()[:2], ([(5, -5, 2), (-999, 999, 5), (5, -5, 2)], [7, 0, 23]))
        self.assertEqual([book.status(name) for name in book.names()], ["aloft", "aloft", "landed"])
        self.assertEqual(len(book.done()), len(PAGE.split("\n")) - 7)

    def test_each_beginning_of_a_page(self):
        rows = PAGE.split("\n")
        for many in range(1, len(rows) + 1):
            text = "\n".join(rows[:many])
            self.assertEqual(written(read_page(text)), text)

    def test_it_answers_alike_without_holds(self):
        chance = random.Random(320)
        for turn in range(30):
            plain = some_plain_book(chance)
            book = lived(plain.hills, plain.cool, plain.deeds)
            book.hold()
            text = written(book)
            other = read_page(text)
            self.assertEqual(all_told(other), all_told(book))
            self.assertEqual(written(other), text)
            self.assertEqual(outcome(other.back, 1), ("NoHold",))
            self.assertEqual(other.hold(), 1)

    def test_20_hills_24_cool_hours_and_60_deeds(self):
        text = "\n".join(["book"] + ["hill 0 0 1"] * 20 + [f"cool {hour}" for hour in range(24)]
                         + ["wind 0 0 0 0"] * 60)
        self.assertEqual(written(read_page(text)), text)

    def test_two_books_of_one_text(self):
        one, other = read_page(PAGE), read_page(PAGE)
        one.drift([])
        self.assertEqual((one.now(), other.now()), (4, 3))


class Refused(unittest.TestCase):
    def no_page(self, row, text):
        with self.assertRaises(NoPage) as caught:
            read_page(text)
        self.assertEqual(caught.exception.row, row, text)

    def spoilt(self, *rows):
        """Pages whose row at the end of the told ones is wrong, alone and with more behind it."""
        self.no_page(len(rows) - 1, "\n".join(rows))
        self.no_page(len(rows) - 1, "\n".join(rows + ("drift",)))
        self.no_page(len(rows) - 1, "\n".join(rows + ("hill 0 0 9", "", "nothing")))

    def test_the_first_row(self):
        for first in ("", " ", "Book", "book ", " book", "books", "boo", "book book", "drift", "hill 0 0 1", "cool 1"):
            self.spoilt(first)
            self.no_page(0, first + "\nbook")
        self.no_page(0, "\n")
        self.no_page(0, "\nbook")

    def test_empty_rows(self):
        self.no_page(1, "book\n")
        self.no_page(1, "book\n\n")
        self.no_page(1, "book\n\ndrift")
        self.no_page(2, "book\ndrift\n")
        self.no_page(len(PAGE.split("\n")), PAGE + "\n")

    def test_book_told_again(self):
        self.spoilt("book", "book")
        self.spoilt("book", "drift", "book")

    def test_words_of_no_form(self):
        for row in ("nothing", "Drift", "DRIFT", "hold", "back 1", "hour", "names", "try ann", "hill", "cool",
                    "wind", "shut", "launch", "land", "lose", "seen", "unseen", "regain", "race 0 0", "-", "0"):
            self.spoilt("book", row)

    def test_blanks_too_many(self):
        for row in (" drift", "drift ", " ", "  ", "drift  ann up", "drift ann  up", "wind 0 0  0 0",
                    "hill 0 0 1 ", "cool  1", "land  ann", " land ann"):
            self.spoilt("book", row)
            self.spoilt("book", "launch ann 0 0 0 6 6", row)

    def test_numbers_of_other_forms(self):
        for number in ("00", "01", "-0", "+1", "-01", "1.0", "1e0", "0x1", "--1", "-", "1-", "1_0", "one", "0000001",
                       "000000", "1000000", "-1000000", "99999999"):
            self.spoilt("book", f"wind 0 {number} 0 0")
            self.spoilt("book", f"wind 0 0 {number} 0")
            self.spoilt("book", f"hill 0 {number} 1")
            self.spoilt("book", f"cool {number}")
            self.spoilt("book", f"launch ann {number} 0 0 0 0")
            self.spoilt("book", f"shut 0 0 0 0 0 0 {number} 9")

    def test_words_too_few_or_too_many(self):
        opening = ("book", "launch ann 0 0 0 6 6", "launch bo 0 0 0 6 6", "lose bo")
        for row in ("wind 0 0 0 0", "shut 0 0 0 0 0 5 1 2", "launch c 0 0 0 0 0", "drift ann up", "land ann",
                    "lose ann", "seen bo 0 0 0 0 0 0 5", "unseen bo 0 5 5 5 5 0 5", "regain bo 0 0 0 6 6"):
            self.assertEqual(written(read_page("\n".join(opening + (row,)))), "\n".join(opening + (row,)))
            words = row.split(" ")
            self.spoilt(*opening, " ".join(words[:-1]))
            self.spoilt(*opening, " ".join(words + ["0"]))
            self.spoilt(*opening, " ".join(words + ["ann"]))
        for row in ("hill 0 0", "hill 0 0 1 1", "hill 0", "cool 1 2", "cool"):
            self.spoilt("book", row)

    def test_hills_and_cool_hours_at_the_wrong_place(self):
        self.spoilt("book", "cool 1", "hill 0 0 1")
        self.spoilt("book", "hill 0 0 1", "cool 1", "cool 2", "hill 0 0 1")
        self.spoilt("book", "drift", "hill 0 0 1")
        self.spoilt("book", "cool 1", "drift", "hill 0 0 1")
        self.spoilt("book", "drift", "cool 1")
        self.spoilt("book", "hill 0 0 1", "wind 0 0 0 0", "cool 1")

    def test_hills_and_cool_hours_that_are_refused(self):
        for hill in ("1000 0 1", "-1000 0 1", "0 1000 1", "0 -1000 1", "0 0 0", "0 0 6", "0 0 -1"):
            self.spoilt("book", "hill 1 1 1", "hill " + hill)
        for hour in ("-1", "24", "999999", "3"):
            self.spoilt("book", "cool 3", "cool " + hour)

    def test_a_hill_beyond_20_and_a_cool_hour_beyond_24(self):
        self.spoilt("book", *["hill 0 0 1"] * 21)
        self.spoilt("book", *[f"cool {hour}" for hour in range(24)], "cool 24")
        self.spoilt("book", *[f"cool {hour}" for hour in range(24)], "cool 0")

    def test_deeds_that_the_book_refuses_at_their_place(self):
        for row in ("wind 24 0 0 0", "wind 0 6 0 0", "wind 0 0 3 0", "shut 1 0 0 0 0 0 1 1", "shut 0 0 0 0 0 0 0 1",
                    "shut 0 0 0 0 0 0 2 1", "launch Ann 0 0 0 0 0", "launch abcdefg 0 0 0 0 0", "launch 1 0 0 0 0 0",
                    "launch ann 1000 0 0 0 0", "launch ann 0 0 6 0 0", "launch ann 0 0 0 7 0",
                    "launch ann 3 3 0 0 0", "drift ann up", "drift ann", "land ann", "lose ann",
                    "seen ann 0 0 0 0 0 0 5", "unseen ann 0 0 0 0 0 0 5", "regain ann 0 0 0 0 0"):
            self.spoilt("book", "hill 3 3 2", row)
        self.spoilt("book", "launch ann 0 0 2 0 0", "land ann")
        self.spoilt("book", "launch ann 0 0 2 0 0", "launch ann 0 0 2 0 0")
        self.spoilt("book", "launch ann 0 0 2 0 0", "drift ann sideways")
        self.spoilt("book", "launch ann 0 0 2 0 0", "drift ann up")
        self.spoilt("book", "launch ann 0 0 2 6 6", "drift ann up ann up")
        self.spoilt("book", "drift", "wind 0 0 0 0")
        self.spoilt("book", "launch ann 0 0 2 0 0", "lose ann", "seen ann 0 5 5 5 5 0 5")
        self.spoilt("book", *["drift"] * 25)

    def test_a_deed_beyond_60(self):
        self.spoilt("book", *["wind 0 0 0 0"] * 61)

    def test_the_first_wrong_row_counts(self):
        self.no_page(2, "book\ndrift\nland ann\nnothing\n\nhill 0 0 1")
        self.no_page(1, "book\nnothing\nland ann")
        self.no_page(3, "book\nhill 0 0 1\ncool 1\nhill 1000 0 1\ncool 1")


class ByChance(unittest.TestCase):
    def test_whatever_is_read_is_written_alike(self):
        chance = random.Random(321)
        read = 0
        signs = " -019abz\n"
        for turn in range(3000):
            text = PAGE if turn % 2 else written(read_page("\n".join(PAGE.split("\n")[:chance.randint(1, 12)])))
            for change in range(chance.randint(1, 2)):
                at = chance.randrange(len(text))
                text = chance.choice((text[:at] + text[at + 1:], text[:at] + chance.choice(signs) + text[at + 1:],
                                      text[:at] + chance.choice(signs) + text[at:]))
            told = outcome(read_page, text)
            if told[0] == "told":
                read += 1
                self.assertEqual(written(told[1]), text)
            else:
                self.assertEqual(told[0], "NoPage")
                self.first_wrong(text, told[1])
        self.assertGreater(read, 100)

    def first_wrong(self, text, row):
        """The rows ahead of the wrong one are a page, and with it they are none."""
        rows = text.split("\n")
        if row > 0:
            self.assertEqual(written(read_page("\n".join(rows[:row]))), "\n".join(rows[:row]))
        self.assertEqual(outcome(read_page, "\n".join(rows[:row + 1])), ("NoPage", row))

    def test_numbers_have_the_form_of_the_document(self):
        chance = random.Random(322)
        form = re.compile(r"0|-?[1-9][0-9]{0,5}", re.ASCII)
        for turn in range(2000):
            word = "".join(chance.choice("-0159") for sign in range(chance.randint(1, 8)))
            told = outcome(read_page, f"book\nhill {word} 0 1")
            good = form.fullmatch(word) is not None and abs(int(word)) <= 999
            self.assertEqual(told[0], "told" if good else "NoPage", word)


if __name__ == "__main__":
    unittest.main()

"""Books by chance: [20] to [24] against a book that is done the long way."""

import collections
import random
import unittest

from ballastbook.book import Book, lived
from tests.plain_book import KINDS, NAMES, PlainBook, all_told, deep, do, outcome, shallow
from tests.some_deeds import some_deed, some_opening, some_plain_book


class AgainstTheLongWay(unittest.TestCase):
    def agree(self, pairs, plain):
        for told, tale in pairs:
            self.assertEqual(tale, told, (plain.hills, plain.cool, plain.deeds))

    def test_deeds_refusals_and_what_costs_little(self):
        chance = random.Random(300)
        seen = collections.Counter()
        for turn in range(60):
            hills, cool = some_opening(chance)
            plain, book = PlainBook(hills, cool), Book(hills, cool)
            for number in range(60):
                deed = some_deed(chance, plain)
                told = plain.do(deed)
                self.assertEqual(outcome(do, book, deed), told, (hills, cool, plain.deeds, deed))
                seen[deed[0], told[0]] += 1
                self.agree(shallow(plain, book), plain)
        for kind in KINDS:
            self.assertGreater(seen[kind, "told"], 10, kind)
        told = {refusal for kind, refusal in seen}
        self.assertLessEqual({"BadName", "Taken", "NoBalloon", "BadHour", "Past", "BadPlace", "BadHeight",
                              "BadLoad", "BadWind", "BadBox", "BadOrder", "Twice", "NotAloft", "NotLost",
                              "NotLow", "Stopped", "NothingFits", "Full"}, told)

    def test_what_must_be_looked_for(self):
        chance = random.Random(301)
        for turn in range(12):
            hills, cool = some_opening(chance)
            plain, book = PlainBook(hills, cool), Book(hills, cool)
            for number in range(36):
                deed = some_deed(chance, plain)
                self.assertEqual(outcome(do, book, deed), plain.do(deed), (hills, cool, plain.deeds, deed))
                if number % 4 == 3:
                    self.agree(deep(plain, book, NAMES[:3] + ("nobody",), chance.choice((0, 1, 3))), plain)

    def test_until_the_last_hour(self):
        chance = random.Random(302)
        for turn in range(6):
            plain, book = PlainBook([], [3, 9]), Book([], [3, 9])
            deeds = [("launch", "ann", 0, 0, 3, 6, 6), ("lose", "ann"), ("launch", "bo", 1, 1, 2, 4, 4)]
            deeds += [("drift", ())] * 24 + [some_deed(chance, plain) for number in range(20)]
            for deed in deeds:
                self.assertEqual(outcome(do, book, deed), plain.do(deed), (plain.deeds, deed))
            self.agree(shallow(plain, book) + deep(plain, book, NAMES[:2], 0), plain)
            self.agree(deep(plain, book, NAMES[:2], 1), plain)


class WhatHasBeenNeverTurns(unittest.TestCase):
    def test_logs_only_grow(self):
        chance = random.Random(303)
        for turn in range(30):
            hills, cool = some_opening(chance)
            plain, book = PlainBook(hills, cool), Book(hills, cool)
            before = {}
            for number in range(50):
                deed = some_deed(chance, plain)
                plain.do(deed)
                outcome(do, book, deed)
                for name in book.names():
                    log = book.log(name)
                    self.assertEqual(log[:len(before.get(name, []))], before.get(name, []))
                    before[name] = log

    def test_winds_and_shuttings_alter_nothing_of_where_lost_ones_can_be(self):
        chance = random.Random(304)
        asked = 0
        for turn in range(60):
            plain = some_plain_book(chance, tries=30)
            book = lived(plain.hills, plain.cool, plain.deeds)
            lost = [name for name in book.names() if book.status(name) == "lost"]
            before = [outcome(book.where, name, hour) for name in lost for hour in range(book.now() + 1)]
            if not lost or book.now() > 22:
                continue
            asked += 1
            for height in range(6):
                book.wind(book.now(), height, 2, -2)
            book.shut((-999, -999, 999, 999, 0, 5), book.now() + 1, 24)
            after = [outcome(book.where, name, hour) for name in lost for hour in range(book.now() + 1)]
            self.assertEqual(after, before, plain.deeds)
        self.assertGreater(asked, 10)


class ABookIsItsDeeds(unittest.TestCase):
    def test_lived_again(self):
        chance = random.Random(305)
        for turn in range(25):
            plain = some_plain_book(chance)
            book = lived(plain.hills, plain.cool, plain.deeds)
            self.assertEqual(book.done(), plain.deeds)
            again = lived(book.sky()[0], book.sky()[1], book.done())
            self.assertEqual(all_told(again), all_told(book))

    def test_a_true_flight_is_always_possible(self):
        # A twin does not lose the balloon: wherever it flies, the other one can be there.
        chance = random.Random(306)
        for turn in range(30):
            hills, cool = some_opening(chance)
            plain = PlainBook(hills, cool)
            plain.do(("launch", "ann", 0, 0, 5, 6, 6))
            book = lived(hills, cool, plain.deeds)
            aloft = book.twin()
            book.lose("ann")
            for hour in range(8):
                order = chance.choice(("up", "level", "down"))
                if outcome(aloft.drift, [("ann", order)])[0] != "told":
                    break
                book.drift([])
                x, y, height = aloft.state("ann")[:3]
                book.seen("ann", hour + 1, (x - 2, y - 1, x + 3, y, height, 5))
                book.unseen("ann", hour, (x + 9, y + 9, x + 9, y + 9, 0, 5))
                for told in aloft.log("ann"):
                    self.assertIn(told[1:], book.where("ann", told[0]))
            if book.done()[-1][0] != "launch" and book.now() == aloft.now():
                book.regain("ann", aloft.state("ann"))
                self.assertEqual(book.state("ann"), aloft.state("ann"))


if __name__ == "__main__":
    unittest.main()

"""The desk: [27] and the interface of ballastbook/desk.py."""

import random
import unittest

from ballastbook import errors
from ballastbook.book import Book
from ballastbook.desk import Desk
from ballastbook.pages import deed_text, read_page, written
from tests.plain_book import PlainBook, do, outcome
from tests.some_deeds import some_deed, some_opening


def said_of(told):
    """How a desk tells a refusal that `outcome` told."""
    return "no " + " ".join(str(part) for part in told)


class Talk(unittest.TestCase):
    def setUp(self):
        self.desk = Desk([(1, 0, 2)], [5])

    def talk(self, *rows):
        """Rows of a line and its answer."""
        for line, answer in rows:
            self.assertEqual(self.desk.say(line), answer, line)

    def asked_all(self):
        lines = ["hour", "names", "race 0 0"]
        for name in ("ann", "bo", "c", "nobody"):
            lines += [f"status {name}", f"state {name}", f"log {name}", f"reach {name} 1", f"ways {name} 1 0 1"]
            lines += [f"where {name} {hour}" for hour in range(4)]
        return [self.desk.say(line) for line in lines]


class Opening(Talk):
    def test_refused_as_a_book_is(self):
        for hills, cool in (([(0, 0, 1)] * 21, []), ([(1000, 0, 1)], []), ([(0, 0, 6)], []), ([], [24]),
                            ([], [1, 1]), ([], list(range(24)) + [0])):
            self.assertEqual(outcome(Desk, hills, cool), outcome(Book, hills, cool))

    def test_lists_that_are_changed_behind_the_call(self):
        hills, cool = [(0, 0, 2)], []
        desk = Desk(hills, cool)
        hills.clear()
        cool.append(0)
        self.assertEqual(desk.say("launch ann 0 0 1 0 0"), "no Stopped 0 hill")
        self.assertEqual(desk.say("launch ann 5 5 1 0 0"), "deed 1")
        self.assertEqual(desk.say("drift"), "deed 2")
        self.assertEqual(desk.say("state ann"), "5 5 1 0 0")

    def test_desks_have_books_of_their_own(self):
        other = Desk([], [])
        self.talk(("launch ann 0 0 0 0 0", "deed 1"))
        self.assertEqual(other.say("names"), "none")


class Deeds(Talk):
    def test_each_kind(self):
        self.talk(
            ("wind 0 2 1 -2", "deed 1"), ("shut -9 -9 -5 -5 0 5 1 24", "deed 2"),
            ("launch ann 0 0 3 6 6", "deed 3"), ("launch bo -4 4 1 0 6", "deed 4"),
            ("launch c 1 1 0 0 0", "deed 5"), ("drift bo down ann up", "deed 6"), ("land c", "deed 7"),
            ("lose ann", "deed 8"), ("drift", "deed 9"), ("seen ann 2 -9 -9 9 9 0 5", "deed 10"),
            ("unseen ann 1 9 9 9 9 0 5", "deed 11"), ("regain ann 0 0 4 5 6", "deed 12"),
            ("state ann", "0 0 4 5 6"), ("drift ann level", "deed 13"), ("hour", "hour 3"))

    def test_refusals(self):
        self.talk(
            ("wind 24 0 0 0", "no BadHour"), ("wind 0 6 0 0", "no BadHeight"), ("wind 0 0 0 3", "no BadWind"),
            ("shut 1 0 0 0 0 0 1 1", "no BadBox"), ("shut 0 0 0 0 0 0 0 1", "no Past"),
            ("launch Ann 0 0 0 0 0", "no BadName"), ("launch 12 0 0 0 0 0", "no BadName"),
            ("launch - 0 0 0 0 0", "no BadName"), ("launch ann 1000 0 0 0 0", "no BadPlace"),
            ("launch ann 0 0 0 0 7", "no BadLoad"), ("launch ann 1 0 1 0 0", "no Stopped 0 hill"),
            ("launch ann 0 0 0 0 0", "deed 1"), ("launch ann 0 0 0 0 0", "no Taken"),
            ("drift x up", "no NoBalloon"), ("drift ann sideways", "no BadOrder"), ("drift ann 5", "no BadOrder"),
            ("drift ann level ann level", "no Twice"), ("drift ann up", "no Stopped 0 sacks"),
            ("drift ann down", "no Stopped 0 puffs"), ("land bo", "no NoBalloon"), ("regain ann 0 0 0 0 0", "no NotLost"),
            ("launch bo 0 0 3 0 0", "deed 2"), ("land bo", "no NotLow"), ("lose bo", "deed 3"),
            ("lose bo", "no NotAloft"), ("state bo", "no OutOfSight"), ("drift", "deed 4"),
            ("seen bo 1 5 5 5 5 0 5", "no NothingFits 1"), ("unseen bo 0 0 0 0 0 3 3", "no NothingFits 0"),
            ("regain bo 0 0 0 0 0", "no NothingFits 1"), ("seen bo 2 0 0 0 0 0 5", "no BadHour"),
            ("back 1", "no NoHold"), ("back 0", "no NoHold"), ("back -1", "no NoHold"),
            ("reach ann 9", "no BadHour"), ("race 1000 0", "no BadPlace"), ("done", "no line"), ("hour", "hour 1"))

    def test_late_and_full(self):
        self.talk(*[("drift", f"deed {number}") for number in range(1, 25)])
        self.talk(("drift", "no Late"), ("wind 23 0 0 0", "no Past"))
        self.talk(*[(f"launch {name} 0 0 0 0 0", f"deed {at}") for at, name in enumerate("abcdef", start=25)])
        self.talk(("launch g 0 0 0 0 0", "no Full"))
        self.desk = Desk([], [])
        self.talk(*[("wind 0 0 0 0", f"deed {number}") for number in range(1, 61)])
        self.talk(("wind 99 0 0 0", "no Full"), ("drift x y", "no Full"), ("wind 0 0 0", "no line"))

    def test_what_is_refused_changes_nothing(self):
        self.talk(("launch ann 0 0 2 2 2", "deed 1"), ("launch bo 0 0 5 2 2", "deed 2"), ("drift ann up", "deed 3"),
                  ("lose bo", "deed 4"))
        before = self.asked_all()
        for line in ("", "drift ann", "drift ann sideways", "launch ann 0 0 0 0 0", "launch C 0 0 0 0 0", "seen bo 1 9 9 9 9 0 5",
                     "back 1", "nothing", "land ann", "regain bo 9 9 9 9 9", "drift  ", "hold 1", "back"):
            self.assertEqual(self.desk.say(line)[:3], "no ", line)
            self.assertEqual(self.asked_all(), before, line)

    def test_as_a_book_does(self):
        chance = random.Random(330)
        for turn in range(30):
            hills, cool = some_opening(chance)
            plain, book, desk = PlainBook(hills, cool), Book(hills, cool), Desk(hills, cool)
            for number in range(60):
                deed = some_deed(chance, plain)
                plain.do(deed)
                told = outcome(do, book, deed)
                row = deed_text(deed)
                answer = f"deed {told[1]}" if told[0] == "told" else said_of(told)
                # An empty name is an empty word.
                self.assertEqual(desk.say(row), "no line" if "" in row.split(" ") else answer, row)
            self.assertEqual(desk.say("names"), " ".join(book.names()) or "none")


class HoldsAndHours(Talk):
    def test_holds(self):
        self.talk(("hold", "hold 1"), ("drift", "deed 1"), ("hold", "hold 2"), ("drift", "deed 2"),
                  ("hour", "hour 2"), ("back 2", "back 2"), ("hour", "hour 1"), ("back 1", "back 1"),
                  ("hour", "hour 0"), ("back 2", "no NoHold"), ("drift", "deed 1"), ("back 1", "back 1"),
                  ("hold", "hold 2"), ("hour", "hour 0"))

    def test_hour(self):
        for hour in range(24):
            self.talk(("hour", f"hour {hour}"), ("drift", f"deed {hour + 1}"))
        self.talk(("hour", "hour 24"))


class Balloons(Talk):
    def setUp(self):
        self.desk = Desk([(1, 0, 2)], [5])
        self.talk(("wind 0 1 1 0", "deed 1"), ("wind 0 2 0 1", "deed 2"), ("wind 0 3 0 -1", "deed 3"))

    def test_names(self):
        self.talk(("names", "none"), ("launch bo 0 0 2 2 2", "deed 4"), ("names", "bo"),
                  ("launch ann 0 0 2 2 2", "deed 5"), ("names", "bo ann"), ("lose bo", "deed 6"), ("names", "bo ann"))

    def test_status(self):
        self.talk(("launch ann 0 0 0 0 0", "deed 4"), ("launch bo 0 0 2 2 2", "deed 5"), ("status ann", "aloft"),
                  ("land ann", "deed 6"), ("lose bo", "deed 7"), ("status ann", "landed"), ("status bo", "lost"),
                  ("status c", "no NoBalloon"), ("status 5", "no NoBalloon"))
        self.talk(*[("drift", f"deed {number}") for number in range(8, 17)])
        self.talk(("status bo", "gone"), ("state bo", "no OutOfSight"), ("state ann", "0 0 0 0 0"))

    def test_state_and_log(self):
        self.talk(("launch ann -3 4 2 2 1", "deed 4"), ("state ann", "-3 4 2 2 1"), ("log ann", "0 -3 4 2 2 1"),
                  ("drift ann down", "deed 5"), ("state ann", "-2 4 1 2 0"),
                  ("log ann", "0 -3 4 2 2 1; 1 -2 4 1 2 0"), ("lose ann", "deed 6"), ("state ann", "no OutOfSight"),
                  ("log ann", "0 -3 4 2 2 1; 1 -2 4 1 2 0"), ("state x", "no NoBalloon"), ("log x", "no NoBalloon"))

    def test_try(self):
        self.talk(("launch ann 0 0 2 2 1", "deed 4"), ("try ann", "0 0 2 2 1"), ("try ann up", "0 -1 3 1 1"),
                  ("try ann up level down", "0 -1 2 1 0"), ("try ann down", "no Stopped 0 hill"),
                  ("try ann level down down", "no Stopped 2 puffs"), ("try ann up sideways", "no BadOrder"),
                  ("try ann up 5", "no BadOrder"), ("try x", "no NoBalloon"),
                  ("try ann up up up up up up up up up", "no BadHour"), ("try", "no line"), ("try ann ", "no line"),
                  ("try ann  up", "no line"), ("lose ann", "deed 5"), ("try ann up", "no NotAloft"), ("hour", "hour 0"))

    def test_reach(self):
        self.talk(("launch ann 0 0 2 1 0", "deed 4"), ("reach ann 0", "0 0 2 1 0"),
                  ("reach ann 1", "0 -1 3 0 0; 0 1 2 1 0"), ("reach ann -1", "no BadHour"),
                  ("reach ann 9", "no BadHour"), ("reach x 1", "no NoBalloon"), ("lose ann", "deed 5"),
                  ("reach ann 1", "no NotAloft"))

    def test_reach_none(self):
        self.talk(("shut -99 -99 99 99 0 5 1 1", "deed 4"), ("launch ann 0 0 2 1 0", "deed 5"), ("reach ann 1", "none"),
                  ("reach ann 0", "0 0 2 1 0"))

    def test_ways(self):
        self.talk(("launch ann 0 0 2 1 0", "deed 4"), ("ways ann 0 0 0", "1 0"), ("ways ann 3 0 0", "1 0"),
                  ("ways ann 3 0 2", "1 0 level level"), ("ways ann 3 0 -1", "0 0 up"), ("ways ann 3 5 5", "none"),
                  ("ways ann 3 1000 5", "no BadPlace"), ("ways ann 9 0 0", "no BadHour"), ("ways x 0 0 0", "no NoBalloon"))

    def test_several_ways(self):
        desk = Desk([], [1, 2])
        for line in ("wind 0 0 1 0", "wind 0 2 1 0", "wind 1 0 0 0", "wind 1 2 0 0", "launch ann 0 0 1 1 1"):
            desk.say(line)
        self.assertEqual(desk.say("ways ann 3 1 0"), "0 1 up; 1 0 down")

    def test_bar(self):
        self.talk(("launch ann 0 0 2 1 0", "deed 4"), ("bar ann 3 0 2", "open"), ("bar ann 3 0 0", "open"),
                  ("bar ann 1 0 2", "barred"), ("bar ann 8 -5 0", "barred"), ("bar ann 3 0 -1000", "no BadPlace"),
                  ("bar ann 9 0 0", "no BadHour"), ("bar x 0 0 0", "no NoBalloon"))

    def test_near(self):
        self.talk(("launch ann 0 0 2 1 0", "deed 4"), ("near ann 3 0 2", "0 2"), ("near ann 3 0 9", "6 3"),
                  ("near ann 3 -4 0", "4 0"), ("near ann 0 2 2", "4 0"), ("near ann 3 1000 0", "no BadPlace"),
                  ("near x 0 0 0", "no NoBalloon"))

    def test_meet(self):
        self.talk(("launch ann 0 0 2 3 3", "deed 4"), ("launch bo 0 4 3 0 0", "deed 5"), ("meet ann bo 8", "2; 0 2"),
                  ("meet bo ann 8", "2; 0 2"), ("meet ann bo 1", "never"), ("meet ann ann 1", "0; 0 0"),
                  ("meet ann x 1", "no NoBalloon"), ("meet ann bo 9", "no BadHour"), ("lose bo", "deed 6"),
                  ("meet ann bo 1", "no NotAloft"))

    def test_meet_at_several_places(self):
        desk = Desk([], [])
        for line in ("wind 0 1 1 0", "wind 0 2 0 1", "wind 0 3 0 -1", "wind 0 4 -1 0", "launch ann 0 0 2 3 3",
                     "launch bo 2 2 3 3 3"):
            desk.say(line)
        self.assertEqual(desk.say("meet ann bo 5"), "2; 0 2; 1 1; 2 0")

    def test_where(self):
        self.talk(("launch ann 0 0 3 1 0", "deed 4"), ("lose ann", "deed 5"), ("where ann 0", "0 0 3 1 0"),
                  ("where ann 1", "no BadHour"), ("drift", "deed 6"), ("where ann 1", "0 -1 3 1 0; 0 0 4 0 0"),
                  ("unseen ann 1 0 0 0 0 4 4", "deed 7"), ("where ann 1", "0 -1 3 1 0"), ("where x 1", "no NoBalloon"),
                  ("where ann -1", "no BadHour"), ("shut -99 -99 99 99 0 5 2 2", "deed 8"), ("drift", "deed 9"),
                  ("where ann 1", "no NothingFits 2"), ("launch bo 0 0 4 0 0", "no Stopped 0 shut"),
                  ("launch bo 500 500 4 0 0", "deed 10"), ("where bo 2", "no NotLost"))

    def test_race(self):
        self.talk(("race 0 0", "none"), ("launch ann 0 0 0 0 0", "deed 4"), ("launch bo 5 5 0 0 0", "deed 5"),
                  ("race 0 0", "ann bo"), ("race 5 4", "bo ann"), ("land ann", "deed 6"), ("lose bo", "deed 7"),
                  ("race 5 4", "ann"), ("race -1000 0", "no BadPlace"))


class NoLine(Talk):
    # Each form of the document once, with parts that the book takes.
    forms = (
        "wind 0 2 1 0", "shut 5 5 6 6 0 5 9 9", "launch dora 0 0 3 3 3", "drift ann level", "land c", "lose ann",
        "seen bo 0 -9 -9 9 9 0 5", "unseen bo 0 9 9 9 9 0 5", "regain bo 0 0 3 3 3", "hold", "back 1", "hour", "names",
        "status ann", "state ann", "log ann", "reach ann 2", "ways ann 2 0 0", "bar ann 2 0 0", "near ann 2 0 0",
        "meet ann ann 2", "where bo 0", "race 0 0")

    def begun(self):
        desk = Desk([], [])
        for line in ("launch ann 0 0 3 3 3", "launch bo 0 0 3 3 3", "launch c 0 0 0 0 0", "lose bo", "hold"):
            self.assertNotEqual(desk.say(line)[:3], "no ")
        return desk

    def test_the_forms_are_answered(self):
        for line in self.forms:
            self.assertNotEqual(self.begun().say(line)[:3], "no ", line)

    def test_words_too_few_or_too_many(self):
        for line in self.forms:
            desk, words = self.begun(), line.split(" ")
            if words[1:]:
                self.assertEqual(desk.say(" ".join(words[:-1])), "no line", line)
            for more in ("0", "ann", "up"):
                self.assertEqual(desk.say(line + " " + more), "no line", line)
            self.assertEqual((desk.say("hour"), desk.say("hold")), ("hour 0", "hold 2"))

    def test_blanks_too_many(self):
        for line in self.forms + ("drift", "try ann", "try ann level"):
            desk = self.begun()
            for spoilt in (" " + line, line + " ", line.replace(" ", "  ", 1) if " " in line else "  " + line):
                self.assertEqual(desk.say(spoilt), "no line", spoilt)

    def test_numbers_of_other_forms(self):
        for line in self.forms:
            words = line.split(" ")
            for at, word in enumerate(words):
                if not word.lstrip("-").isdigit():
                    continue
                for number in ("00", "01", "-0", "+1", "1.0", "--1", "-", "one", "1000000", "-1000000", "0000001"):
                    spoilt = " ".join(words[:at] + [number] + words[at + 1:])
                    self.assertEqual(self.begun().say(spoilt), "no line", spoilt)

    def test_numbers_of_six_figures(self):
        self.talk(("race 999999 -999999", "no BadPlace"), ("back 999999", "no NoHold"), ("wind -999999 0 0 0", "no BadHour"))

    def test_all_else(self):
        self.talk(*[(line, "no line") for line in (
            "", " ", "  ", "nothing", "Hour", "HOUR", "hours", "book", "hill 0 0 1", "cool 1", "done", "sky", "now",
            "table ann 1", "paper ann 1 0 0", "nearest ann 1 0 0", "twin", "-", "0", "no line", "~", "drift ann",
            "drift ann up bo", "try", "deed 1", "wind;0;0;0;0")])

    def test_any_word_may_stand_for_a_name_or_an_order(self):
        for word in ("A", "abcdefg", "1", "-0", "~", "up", "00", "a;b", "\"", "drift"):
            self.talk((f"launch {word} 0 0 0 0 0", "deed 1" if word in ("up", "drift") else "no BadName"))
            self.desk = Desk([], [])
            for line in ("status {}", "state {}", "log {}", "land {}", "lose {}", "drift {} up", "try {}", "reach {} 1",
                         "ways {} 1 0 0", "bar {} 1 0 0", "near {} 1 0 0", "meet {} {} 1", "where {} 0",
                         "seen {} 0 0 0 0 0 0 0", "unseen {} 0 0 0 0 0 0 0", "regain {} 0 0 0 0 0"):
                self.talk((line.replace("{}", word), "no NoBalloon"))
            self.talk(("launch ann 0 0 0 6 6", "deed 1"))
            if word != "up":
                self.talk((f"drift ann {word}", "no BadOrder"), (f"try ann {word}", "no BadOrder"))
            self.desk = Desk([(1, 0, 2)], [5])


class Refusals(unittest.TestCase):
    def test_each_class_is_told_by_its_name(self):
        made = {"Stopped": (3, "hill"), "NothingFits": (17,), "NoPage": (4,)}
        told = {"Stopped": "Stopped 3 hill", "NothingFits": "NothingFits 17", "NoPage": "NoPage 4"}
        for name, value in vars(errors).items():
            if isinstance(value, type):
                self.assertEqual(value(*made.get(name, ())).said, told.get(name, name))


class APageIsSaid(unittest.TestCase):
    def test_the_deeds_of_a_page_said_one_by_one(self):
        text = "\n".join([
            "book", "wind 0 2 1 -2", "launch ann 0 0 3 6 6", "launch bo -4 4 1 0 6", "drift bo down ann up", "lose ann",
            "drift", "seen ann 2 -9 -9 9 9 0 5"])
        desk = Desk([], [])
        for at, row in enumerate(text.split("\n")[1:], start=1):
            self.assertEqual(desk.say(row), f"deed {at}")
        book = read_page(text)
        self.assertEqual(written(book), text)
        self.assertEqual(desk.say("where ann 2"), "; ".join(" ".join(map(str, state)) for state in book.where("ann", 2)))


if __name__ == "__main__":
    unittest.main()

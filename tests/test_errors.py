"""The refusals of the interface."""

import unittest

from ballastbook import errors

NAMES = (
    "BadName", "Taken", "NoBalloon", "BadHour", "Past", "Late", "BadPlace", "BadHeight",
    "BadLoad", "BadWind", "BadBox", "BadOrder", "Twice", "NotAloft", "NotLost", "NotLow",
    "OutOfSight", "NoHold", "Full", "Stopped", "NothingFits", "NoPage",
)
MADE_WITH = {"Stopped": (3, "hill"), "NothingFits": (17,), "NoPage": (0,)}


def made(name):
    return getattr(errors, name)(*MADE_WITH.get(name, ()))


class Classes(unittest.TestCase):
    def test_there_are_twenty_two(self):
        self.assertEqual(len(set(NAMES)), 22)

    def test_no_other_refusal_is_defined(self):
        found = [name for name, value in vars(errors).items()
                 if isinstance(value, type) and issubclass(value, Exception)]
        self.assertEqual(sorted(found), sorted(NAMES + ("BookError",)))

    def test_a_book_error_is_a_value_error(self):
        self.assertTrue(issubclass(errors.BookError, ValueError))
        for name in NAMES:
            self.assertFalse(issubclass(errors.BookError, getattr(errors, name)), name)

    def test_each_is_a_book_error_and_a_value_error(self):
        for name in NAMES:
            with self.subTest(name):
                self.assertIsInstance(made(name), errors.BookError)
                self.assertIsInstance(made(name), ValueError)

    def test_each_is_under_none_of_the_others(self):
        for name in NAMES:
            for other in NAMES:
                if name != other:
                    with self.subTest(name=name, other=other):
                        self.assertNotIsInstance(made(name), getattr(errors, other))

    def test_each_is_raised_and_caught_by_its_name(self):
        for name in NAMES:
            with self.subTest(name):
                with self.assertRaises(getattr(errors, name)) as caught:
                    raise made(name)
                self.assertEqual(type(caught.exception).__name__, name)


class Fields(unittest.TestCase):
    def test_stopped(self):
        for at, why in ((0, "hill"), (5, "shut"), (7, "sacks")):
            stopped = errors.Stopped(at, why)
            self.assertEqual((stopped.at, stopped.why), (at, why))

    def test_nothing_fits(self):
        for hour in (0, 1, 24):
            self.assertEqual(errors.NothingFits(hour).hour, hour)

    def test_no_page(self):
        for row in (0, 1, 199):
            self.assertEqual(errors.NoPage(row).row, row)

    def test_each_object_has_its_own_fields(self):
        one, other = errors.Stopped(1, "high"), errors.Stopped(2, "low")
        self.assertEqual((one.at, one.why, other.at, other.why), (1, "high", 2, "low"))


if __name__ == "__main__":
    unittest.main()

"""The refusals: one class for each kind, all of them under BookError."""


class BookError(ValueError):
    """Any refusal."""


class BadName(BookError):
    """A name that isn't one to six small letters."""


class Taken(BookError):
    """A name that a balloon has already."""


class NoBalloon(BookError):
    """A name that no balloon has."""


class BadHour(BookError):
    """An hour, or a number of hours, beyond its bounds."""


class Past(BookError):
    """An hour that the book has left behind."""


class Late(BookError):
    """A drift when the last hour has come."""


class BadPlace(BookError):
    """A place beyond the bounds of a book."""


class BadHeight(BookError):
    """A height, or the top of a hill, beyond its bounds."""


class BadLoad(BookError):
    """Sacks or puffs beyond their bounds."""


class BadWind(BookError):
    """A wind that is too strong."""


class BadBox(BookError):
    """Six numbers that are no box of a book."""


class BadOrder(BookError):
    """A word that is none of the three orders."""


class Twice(BookError):
    """Something told twice that may be told only once."""


class NotAloft(BookError):
    """A balloon that would have to be aloft and isn't."""


class NotLost(BookError):
    """A balloon that would have to be lost and isn't."""


class NotLow(BookError):
    """A landing above the ground."""


class OutOfSight(BookError):
    """The state of a balloon that is lost or gone."""


class NoHold(BookError):
    """A number that no hold has."""


class Full(BookError):
    """More than a book has room for."""


class Stopped(BookError):
    """What can't be flown, or may not stand: at is its number, why the reason's word."""

    def __init__(self, at, why):
        self.at = at
        self.why = why


class NothingFits(BookError):
    """Sightings that no flight fits: hour is the first one up to which none does."""

    def __init__(self, hour):
        self.hour = hour


class NoPage(BookError):
    """A text that is no page: row is the number of its first wrong row."""

    def __init__(self, row):
        self.row = row

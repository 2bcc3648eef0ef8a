"""The refusals: one class for each kind, all of them under BookError.

Each bears, as said, the words by which a desk tells it.
"""


class BookError(ValueError):
    """Any refusal."""

    def __init__(self, said="BookError"):
        self.said = said


class BadName(BookError):
    """A name that isn't one to six small letters."""

    def __init__(self, said="BadName"):
        self.said = said


class Taken(BookError):
    """A name that a balloon has already."""

    def __init__(self, said="Taken"):
        self.said = said


class NoBalloon(BookError):
    """A name that no balloon has."""

    def __init__(self, said="NoBalloon"):
        self.said = said


class BadHour(BookError):
    """An hour, or a number of hours, beyond its bounds."""

    def __init__(self, said="BadHour"):
        self.said = said


class Past(BookError):
    """An hour that the book has left behind."""

    def __init__(self, said="Past"):
        self.said = said


class Late(BookError):
    """A drift when the last hour has come."""

    def __init__(self, said="Late"):
        self.said = said


class BadPlace(BookError):
    """A place beyond the bounds of a book."""

    def __init__(self, said="BadPlace"):
        self.said = said


class BadHeight(BookError):
    """A height, or the top of a hill, beyond its bounds."""

    def __init__(self, said="BadHeight"):
        self.said = said


class BadLoad(BookError):
    """Sacks or puffs beyond their bounds."""

    def __init__(self, said="BadLoad"):
        self.said = said


class BadWind(BookError):
    """A wind that is too strong."""

    def __init__(self, said="BadWind"):
        self.said = said


class BadBox(BookError):
    """Six numbers that are no box of a book."""

    def __init__(self, said="BadBox"):
        self.said = said


class BadOrder(BookError):
    """A word that is none of the three orders."""

    def __init__(self, said="BadOrder"):
        self.said = said


class Twice(BookError):
    """Something told twice that may be told only once."""

    def __init__(self, said="Twice"):
        self.said = said


class NotAloft(BookError):
    """A balloon that would have to be aloft and isn't."""

    def __init__(self, said="NotAloft"):
        self.said = said


class NotLost(BookError):
    """A balloon that would have to be lost and isn't."""

    def __init__(self, said="NotLost"):
        self.said = said


class NotLow(BookError):
    """A landing above the ground."""

    def __init__(self, said="NotLow"):
        self.said = said


class OutOfSight(BookError):
    """The state of a balloon that is lost or gone."""

    def __init__(self, said="OutOfSight"):
        self.said = said


class NoHold(BookError):
    """A number that no hold has."""

    def __init__(self, said="NoHold"):
        self.said = said


class Full(BookError):
    """More than a book has room for."""

    def __init__(self, said="Full"):
        self.said = said


class Stopped(BookError):
    """What can't be flown, or may not stand: at is its number, why the reason's word."""

    def __init__(self, at, why):
        self.at = at
        self.why = why
        self.said = f"Stopped {at} {why}"


class NothingFits(BookError):
    """Sightings that no flight fits: hour is the first one up to which none does."""

    def __init__(self, hour):
        self.hour = hour
        self.said = f"NothingFits {hour}"


class NoPage(BookError):
    """A text that is no page: row is the number of its first wrong row."""

    def __init__(self, row):
        self.row = row
        self.said = f"NoPage {row}"

"""The book: a sky as it is told, the balloons in it, and all deeds done."""

from ballastbook.air import LAST_HOUR, why_not_stand
from ballastbook.balloon import aloft_at, drifted, landed, launched, lost, reported, whereabouts
from ballastbook.checks import (
    check_between, check_box, check_many, check_name, check_opening, check_order, check_place,
    check_shut, check_state, check_wind)
from ballastbook.errors import (
    Full, Late, NoBalloon, NoHold, NotAloft, NothingFits, NotLost, NotLow, OutOfSight, Stopped, Taken,
    Twice)
from ballastbook.ground import on_ground
from ballastbook.meetings import first_meeting
from ballastbook.papers import paper
from ballastbook.plans import ways
from ballastbook.races import nearest, ranked
from ballastbook.steps import flown
from ballastbook.tables import table

MOST_BALLOONS = 6
MOST_DEEDS = 60


class Book:
    """A book; hills and cool are lists.

    Each deed looks for all refusals ahead of changing anything, so that what is refused changes
    nothing, and tells how many deeds there are then.
    """

    def __init__(self, hills, cool):
        check_opening(hills, cool)
        self.hills = list(hills)
        self.cool = list(cool)
        self.hour = 0
        self.winds = []
        self.shuts = []
        self.balloons = []
        self.deeds = []
        self.holds = []

    def check_room(self):
        """Full where no deed can be added."""
        if len(self.deeds) >= MOST_DEEDS:
            raise Full()

    def noted(self, deed):
        """How many deeds there are with this one, which has been done."""
        self.deeds.append(deed)
        return len(self.deeds)

    def number_of(self, name):
        """The balloon's number among all that were launched; NoBalloon."""
        for at, balloon in enumerate(self.balloons):
            if balloon.name == name:
                return at
        raise NoBalloon()

    def found(self, name):
        """The balloon of the name; NoBalloon."""
        return self.balloons[self.number_of(name)]

    def found_aloft(self, name):
        """The balloon of the name; NoBalloon, NotAloft."""
        balloon = self.found(name)
        if balloon.fate != "aloft":
            raise NotAloft()
        return balloon

    def found_lost(self, name):
        """The balloon of the name; NoBalloon, NotLost."""
        balloon = self.found(name)
        if balloon.fate != "lost":
            raise NotLost()
        return balloon

    def put(self, balloon):
        """Let the balloon stand where the one of its name stood."""
        self.balloons[self.number_of(balloon.name)] = balloon

    def wind(self, first, height, dx, dy):
        """Tell a wind."""
        self.check_room()
        check_wind(self.hour, (first, height, dx, dy))
        self.winds.append((first, height, dx, dy))
        return self.noted(("wind", first, height, dx, dy))

    def shut(self, box, first, last):
        """Tell a shutting."""
        self.check_room()
        check_shut(self.hour, box, first, last)
        self.shuts.append(box + (first, last))
        return self.noted(("shut",) + box + (first, last))

    def launch(self, name, state):
        """Launch a balloon."""
        self.check_room()
        if len(self.balloons) >= MOST_BALLOONS:
            raise Full()
        check_name(name)
        if name in self.names():
            raise Taken()
        check_state(state)
        why = why_not_stand(self.sky(), self.hour, state)
        if why != "":
            raise Stopped(0, why)
        self.balloons.append(launched(name, self.hour, state))
        return self.noted(("launch", name) + state)

    def orders_given(self, pairs):
        """The orders by name; pair by pair NoBalloon, NotAloft, Twice, BadOrder."""
        orders = {}
        for name, order in pairs:
            self.found_aloft(name)
            if name in orders:
                raise Twice()
            check_order(order)
            orders[name] = order
        return orders

    def drift(self, orders):
        """Let an hour pass; orders is a list of pairs (name, order)."""
        self.check_room()
        if self.hour >= LAST_HOUR:
            raise Late()
        given = self.orders_given(orders)
        sky = self.sky()
        after = []
        for at, balloon in enumerate(self.balloons):
            after.append(drifted(balloon, at, sky, self.hour, given.get(balloon.name, "level")))
        self.balloons = after
        self.hour += 1
        return self.noted(("drift", tuple([(name, order) for name, order in orders])))

    def land(self, name):
        """Let a balloon land."""
        self.check_room()
        balloon = self.found_aloft(name)
        if not on_ground(self.hills, balloon.last):
            raise NotLow()
        self.put(landed(balloon))
        return self.noted(("land", name))

    def lose(self, name):
        """Lose a balloon from sight."""
        self.check_room()
        self.put(lost(self.found_aloft(name), self.hour))
        return self.noted(("lose", name))

    def report(self, name, hour, box, was_seen):
        """Tell a sighting of a lost balloon, ahead of its being noted as a deed."""
        self.check_room()
        balloon = self.found_lost(name)
        check_between(hour, balloon.lost_at, self.hour)
        check_box(box)
        after = reported(balloon, (hour,) + box + (was_seen,))
        whereabouts(after, self.sky(), self.hour)
        self.put(after)

    def seen(self, name, hour, box):
        """Tell that a lost balloon was in the box at the hour."""
        self.report(name, hour, box, True)
        return self.noted(("seen", name, hour) + box)

    def unseen(self, name, hour, box):
        """Tell that a lost balloon wasn't in the box at the hour."""
        self.report(name, hour, box, False)
        return self.noted(("unseen", name, hour) + box)

    def regain(self, name, state):
        """Have a lost balloon in sight again, with the state."""
        self.check_room()
        balloon = self.found_lost(name)
        check_state(state)
        if state not in whereabouts(balloon, self.sky(), self.hour)[-1]:
            raise NothingFits(self.hour)
        self.put(aloft_at(balloon, self.hour, state))
        return self.noted(("regain", name) + state)

    def now(self):
        """The hour."""
        return self.hour

    def sky(self):
        """The sky as it stands."""
        return (list(self.hills), list(self.cool), list(self.winds), list(self.shuts))

    def done(self):
        """The deeds."""
        return list(self.deeds)

    def names(self):
        """The names, as launched."""
        return [balloon.name for balloon in self.balloons]

    def status(self, name):
        """What became of the balloon; NoBalloon."""
        return self.found(name).fate

    def state(self, name):
        """The state of one aloft, or as it landed; NoBalloon, OutOfSight."""
        balloon = self.found(name)
        if balloon.fate not in ("aloft", "landed"):
            raise OutOfSight()
        return balloon.last

    def log(self, name):
        """The balloon's log; NoBalloon."""
        return list(self.found(name).path)

    def table(self, name, many):
        """The table of a balloon aloft; NoBalloon, NotAloft, BadHour."""
        balloon = self.found_aloft(name)
        check_many(self.hour, many)
        return table(self.sky(), self.hour, balloon.last, many)

    def ways(self, name, many, x, y):
        """The ways of a balloon aloft to the place; NoBalloon, NotAloft, BadHour, BadPlace."""
        balloon = self.found_aloft(name)
        check_many(self.hour, many)
        check_place(x, y)
        return ways(self.sky(), self.hour, balloon.last, many, x, y)

    def paper(self, name, many, x, y):
        """A paper that bars the place, or None; NoBalloon, NotAloft, BadHour, BadPlace."""
        balloon = self.found_aloft(name)
        check_many(self.hour, many)
        check_place(x, y)
        return paper(self.sky(), self.hour, balloon.last, many, x, y)

    def nearest(self, name, many, x, y):
        """How near the balloon can come, and when; NoBalloon, NotAloft, BadHour, BadPlace."""
        balloon = self.found_aloft(name)
        check_many(self.hour, many)
        check_place(x, y)
        return nearest(self.sky(), self.hour, balloon.last, many, x, y)

    def meeting(self, name, other, many):
        """The first meeting of two, or None; NoBalloon, NotAloft of each, BadHour."""
        one = self.found_aloft(name)
        two = self.found_aloft(other)
        check_many(self.hour, many)
        return first_meeting(self.sky(), self.hour, one.last, two.last, many)

    def tried(self, name, orders):
        """The states along the orders; NoBalloon, NotAloft, BadHour, BadOrder, Stopped."""
        balloon = self.found_aloft(name)
        check_many(self.hour, len(orders))
        for order in orders:
            check_order(order)
        return flown(self.sky(), self.hour, balloon.last, orders)

    def where(self, name, hour):
        """Where a lost balloon can be at the hour; NoBalloon, NotLost, BadHour, NothingFits."""
        balloon = self.found_lost(name)
        check_between(hour, balloon.lost_at, self.hour)
        return whereabouts(balloon, self.sky(), self.hour)[hour - balloon.lost_at]

    def sightings(self, name):
        """The sightings told since the balloon was lost; NoBalloon, NotLost."""
        return list(self.found_lost(name).reports)

    def race(self, x, y):
        """The names of those aloft or landed, as they rank for the place; BadPlace."""
        check_place(x, y)
        racing = [balloon for balloon in self.balloons if balloon.fate in ("aloft", "landed")]
        return [racing[at].name for at in ranked([balloon.last for balloon in racing], x, y)]

    def stand_as(self, other):
        """Make this book stand as the other one of the same opening does, but for its holds."""
        self.hour = other.hour
        self.winds = list(other.winds)
        self.shuts = list(other.shuts)
        self.balloons = list(other.balloons)
        self.deeds = list(other.deeds)

    def kept(self):
        """A book of its own that stands as this one does, without holds."""
        book = Book(self.hills, self.cool)
        book.stand_as(self)
        return book

    def hold(self):
        """Keep the book as it stands; tells the hold's number."""
        self.holds.append(self.kept())
        return len(self.holds)

    def back(self, number):
        """Make the book as it was at the hold; NoHold."""
        if not 1 <= number <= len(self.holds):
            raise NoHold()
        self.holds = self.holds[:number]
        self.stand_as(self.holds[-1])
        return number

    def twin(self):
        """A book of its own that stands as this one does, holds too."""
        book = self.kept()
        # What is held is never changed, so both can have the same.
        book.holds = list(self.holds)
        return book


def do_deed(book, deed):
    """Do the deed in the book, as its tuple tells it: how many deeds there are then."""
    kind, *parts = deed
    if kind == "wind":
        return book.wind(parts[0], parts[1], parts[2], parts[3])
    if kind == "shut":
        return book.shut(tuple(parts[:6]), parts[6], parts[7])
    if kind == "launch":
        return book.launch(parts[0], tuple(parts[1:]))
    if kind == "drift":
        return book.drift(list(parts[0]))
    if kind == "land":
        return book.land(parts[0])
    if kind == "lose":
        return book.lose(parts[0])
    if kind == "seen":
        return book.seen(parts[0], parts[1], tuple(parts[2:]))
    if kind == "unseen":
        return book.unseen(parts[0], parts[1], tuple(parts[2:]))
    return book.regain(parts[0], tuple(parts[1:]))


def lived(hills, cool, deeds):
    """A book that is opened and in which the deeds are done, one behind the other."""
    book = Book(hills, cool)
    for deed in deeds:
        do_deed(book, deed)
    return book

"""A book done the long way, by the words of [20] to [24]: nothing here uses the package.

What the package refuses is compared by its class name and fields: `("Stopped", 0, "hill")`.
"""

import itertools

from tests.plain import (
    ORDERS, all_flights, flights_up_to, in_order, plain_fits, plain_front, plain_ground, plain_shut,
    plain_step, plain_thinned)

LETTERS = "abcdefghijklmnopqrstuvwxyz"
KINDS = ("wind", "shut", "launch", "drift", "land", "lose", "seen", "unseen", "regain")


def outcome(call, *given):
    """What the call tells, or its refusal as a tuple of the class name and the fields."""
    try:
        return ("told", call(*given))
    except ValueError as refusal:
        fields = [getattr(refusal, name) for name in ("at", "why", "hour", "row") if hasattr(refusal, name)]
        return (refusal.__class__.__name__,) + tuple(fields)


def do(book, deed):
    """Does a deed, as its tuple tells it, by the methods of a book."""
    kind, parts = deed[0], deed[1:]
    return {
        "wind": lambda: book.wind(*parts),
        "shut": lambda: book.shut(parts[:6], parts[6], parts[7]),
        "launch": lambda: book.launch(parts[0], parts[1:]),
        "drift": lambda: book.drift(list(parts[0])),
        "land": lambda: book.land(parts[0]),
        "lose": lambda: book.lose(parts[0]),
        "seen": lambda: book.seen(parts[0], parts[1], parts[2:]),
        "unseen": lambda: book.unseen(parts[0], parts[1], parts[2:]),
        "regain": lambda: book.regain(parts[0], parts[1:]),
    }[kind]()


def between(low, number, high):
    return low <= number and number <= high


def place_refused(x, y):
    return [] if max(abs(x), abs(y)) <= 999 else [("BadPlace",)]


def height_refused(height):
    return [] if height in range(6) else [("BadHeight",)]


def state_refused(state):
    load = [] if state[3] in range(7) and state[4] in range(7) else [("BadLoad",)]
    return place_refused(*state[:2]) + height_refused(state[2]) + load


def box_refused(box):
    x1, y1, x2, y2, low, high = box
    wrong = place_refused(x1, y1) + place_refused(x2, y2) + height_refused(low) + height_refused(high)
    return [("BadBox",)] if wrong or x1 > x2 or y1 > y2 or low > high else []


class PlainBook:
    """Does deeds one behind the other; each refusal is looked for, and the first one counts."""

    def __init__(self, hills, cool):
        self.hills, self.cool, self.deeds = list(hills), list(cool), []
        self.hour, self.winds, self.shuts = 0, [], []
        # Of each balloon: name, fate, state, log, hour of its losing, sightings.
        self.balloons = []

    def the_sky(self):
        return (self.hills, self.cool, self.winds, self.shuts)

    def the_one(self, name):
        found = [balloon for balloon in self.balloons if balloon["name"] == name]
        return found[0] if found else None

    def fate_refused(self, name, fate):
        if self.the_one(name) is None:
            return [("NoBalloon",)]
        word = {"aloft": "NotAloft", "lost": "NotLost"}[fate]
        return [] if self.the_one(name)["fate"] == fate else [(word,)]

    def paths(self, balloon, sightings):
        """All fitting flights since the losing, or the hour of the refusal."""
        at, found = balloon["lost_at"], [[balloon["state"]]]
        while True:
            found = [path for path in found if plain_fits(sightings, at, path[-1])]
            if not found:
                return at
            if at == self.hour:
                return found
            steps = [(path, plain_step(self.the_sky(), at, path[-1], order))
                     for path in found for order in ORDERS]
            found = [path + [after] for path, (why, after) in steps if why is None]
            at += 1

    def fits_refused(self, balloon, sightings):
        found = self.paths(balloon, sightings)
        return [("NothingFits", found)] if isinstance(found, int) else []

    def wind_refused(self, first, height, dx, dy):
        return (([] if between(0, first, 23) else [("BadHour",)])
                + ([("Past",)] if first < self.hour else []) + height_refused(height)
                + ([] if between(-2, dx, 2) and between(-2, dy, 2) else [("BadWind",)]))

    def shut_refused(self, *parts):
        first, last = parts[6:]
        hours = between(0, first, 24) and between(0, last, 24) and not last < first
        return (box_refused(parts[:6]) + ([] if hours else [("BadHour",)])
                + ([("Past",)] if not first > self.hour else []))

    def launch_refused(self, name, *state):
        named = len(name) in range(1, 7) and set(name) <= set(LETTERS)
        found = ([("Full",)] if len(self.balloons) == 6 else []) + ([] if named else [("BadName",)])
        found += ([("Taken",)] if self.the_one(name) else []) + state_refused(state)
        if not found and state[2] < plain_ground(self.hills, *state[:2]):
            return [("Stopped", 0, "hill")]
        if not found and plain_shut(self.shuts, self.hour, *state[:3]):
            return [("Stopped", 0, "shut")]
        return found

    def drift_refused(self, pairs):
        if self.hour == 24:
            return [("Late",)]
        found = []
        for at, (name, order) in enumerate(pairs):
            found += self.fate_refused(name, "aloft")
            found += [("Twice",)] if name in [pair[0] for pair in pairs[:at]] else []
            found += [] if order in ORDERS else [("BadOrder",)]
        if not found:
            for number, balloon in enumerate(self.balloons):
                if balloon["fate"] == "aloft":
                    order = dict(pairs).get(balloon["name"], "level")
                    why = plain_step(self.the_sky(), self.hour, balloon["state"], order)[0]
                    found += [] if why is None else [("Stopped", number, why)]
        return found

    def land_refused(self, name):
        found = self.fate_refused(name, "aloft")
        if not found and self.the_one(name)["state"][2] != plain_ground(
                self.hills, *self.the_one(name)["state"][:2]):
            return [("NotLow",)]
        return found

    def lose_refused(self, name):
        return self.fate_refused(name, "aloft")

    def sighting_refused(self, seen, name, hour, *box):
        found = self.fate_refused(name, "lost")
        if found:
            return found
        balloon = self.the_one(name)
        found = [] if between(balloon["lost_at"], hour, self.hour) else [("BadHour",)]
        found += box_refused(box)
        return found or self.fits_refused(balloon, balloon["told"] + [(hour,) + box + (seen,)])

    def seen_refused(self, *parts):
        return self.sighting_refused(True, *parts)

    def unseen_refused(self, *parts):
        return self.sighting_refused(False, *parts)

    def regain_refused(self, name, *state):
        found = self.fate_refused(name, "lost") + state_refused(state)
        if found:
            return found
        balloon = self.the_one(name)
        found = self.fits_refused(balloon, balloon["told"])
        if not found and state not in [path[-1] for path in self.paths(balloon, balloon["told"])]:
            return [("NothingFits", self.hour)]
        return found

    def refusal(self, deed):
        """The first refusal of the deed, or None."""
        if len(self.deeds) == 60:
            return ("Full",)
        found = getattr(self, deed[0] + "_refused")(*deed[1:])
        return found[0] if found else None

    def do(self, deed):
        """The outcome of the deed, which is done if nothing refuses it."""
        refused = self.refusal(deed)
        if refused is None:
            getattr(self, "do_" + deed[0])(*deed[1:])
            self.deeds.append(deed)
        return refused or ("told", len(self.deeds))

    def do_wind(self, *wind):
        self.winds.append(wind)

    def do_shut(self, *shut):
        self.shuts.append(shut)

    def do_launch(self, name, *state):
        self.balloons.append({"name": name, "fate": "aloft", "state": state,
                              "log": [(self.hour,) + state], "lost_at": None, "told": []})

    def do_drift(self, pairs):
        sky = self.the_sky()
        for balloon in self.balloons:
            if balloon["fate"] == "aloft":
                order = dict(pairs).get(balloon["name"], "level")
                balloon["state"] = plain_step(sky, self.hour, balloon["state"], order)[1]
                balloon["log"].append((self.hour + 1,) + balloon["state"])
            if balloon["fate"] == "lost" and self.hour + 1 - balloon["lost_at"] >= 9:
                balloon["fate"] = "gone"
        self.hour += 1

    def do_land(self, name):
        self.the_one(name)["fate"] = "landed"

    def do_lose(self, name):
        self.the_one(name).update(fate="lost", lost_at=self.hour, told=[])

    def do_seen(self, name, hour, *box):
        self.the_one(name)["told"].append((hour,) + box + (True,))

    def do_unseen(self, name, hour, *box):
        self.the_one(name)["told"].append((hour,) + box + (False,))

    def do_regain(self, name, *state):
        self.the_one(name).update(fate="aloft", state=state)
        self.the_one(name)["log"].append((self.hour,) + state)

    def ask_state(self, name):
        balloon = self.the_one(name)
        if balloon is None:
            return ("NoBalloon",)
        return ("told", balloon["state"]) if balloon["fate"] in ("aloft", "landed") else ("OutOfSight",)

    def ask_of_all(self, name, key):
        balloon = self.the_one(name)
        return ("NoBalloon",) if balloon is None else ("told", balloon[key])

    def ask_sightings(self, name):
        refused = self.fate_refused(name, "lost")
        return refused[0] if refused else ("told", self.the_one(name)["told"])

    def ask_where(self, name, hour):
        refused = self.fate_refused(name, "lost")
        if refused:
            return refused[0]
        balloon = self.the_one(name)
        if not between(balloon["lost_at"], hour, self.hour):
            return ("BadHour",)
        found = self.paths(balloon, balloon["told"])
        if isinstance(found, int):
            return ("NothingFits", found)
        return ("told", sorted({path[hour - balloon["lost_at"]] for path in found}))

    def many_refused(self, many):
        return [] if many in range(9) and self.hour + many <= 24 else [("BadHour",)]

    def ask_table(self, name, many):
        refused = self.fate_refused(name, "aloft") + self.many_refused(many)
        if refused:
            return refused[0]
        state = self.the_one(name)["state"]
        ends = [[stood[-1] for row, stood in all_flights(self.the_sky(), self.hour, state, length)]
                for length in range(many + 1)]
        return ("told", [plain_thinned(found) for found in ends])

    def flights_there(self, name, many, x, y):
        """The pairs left and the rows of all flights that reach the place."""
        flights = flights_up_to(self.the_sky(), self.hour, self.the_one(name)["state"], many)
        return [(stood[-1][3:], row) for row, stood in flights if stood[-1][:2] == (x, y)]

    def ask_ways(self, name, many, x, y):
        refused = self.fate_refused(name, "aloft") + self.many_refused(many) + place_refused(x, y)
        if refused:
            return refused[0]
        there = self.flights_there(name, many, x, y)
        return ("told", [pair + (min([row for left, row in there if left == pair], key=in_order),)
                         for pair in plain_front([left for left, row in there])])

    def ask_nearest(self, name, many, x, y):
        refused = self.fate_refused(name, "aloft") + self.many_refused(many) + place_refused(x, y)
        if refused:
            return refused[0]
        flights = flights_up_to(self.the_sky(), self.hour, self.the_one(name)["state"], many)
        return ("told", min((abs(stood[-1][0] - x) + abs(stood[-1][1] - y), self.hour + len(row))
                            for row, stood in flights))

    def ask_meeting(self, name, other, many):
        refused = (self.fate_refused(name, "aloft") + self.fate_refused(other, "aloft")
                   + self.many_refused(many))
        if refused:
            return refused[0]
        for length in range(many + 1):
            mine, theirs = ({stood[-1][:2] for row, stood in all_flights(
                self.the_sky(), self.hour, self.the_one(one)["state"], length)} for one in (name, other))
            if mine & theirs:
                return ("told", (self.hour + length, sorted(mine & theirs)))
        return ("told", None)

    def ask_tried(self, name, orders):
        refused = self.fate_refused(name, "aloft") + self.many_refused(len(orders))
        refused += [("BadOrder",) for order in orders if order not in ORDERS]
        if refused:
            return refused[0]
        told = [self.the_one(name)["state"]]
        for at, order in enumerate(orders):
            why, after = plain_step(self.the_sky(), self.hour + at, told[-1], order)
            if why is not None:
                return ("Stopped", at, why)
            told.append(after)
        return ("told", told)

    def ask_race(self, x, y):
        refused = place_refused(x, y)
        if refused:
            return refused[0]
        racing = [balloon for balloon in self.balloons if balloon["fate"] in ("aloft", "landed")]
        ranks = sorted((abs(balloon["state"][0] - x) + abs(balloon["state"][1] - y),
                        -balloon["state"][4], -balloon["state"][3], at)
                       for at, balloon in enumerate(racing))
        return ("told", [racing[rank[3]]["name"] for rank in ranks])


# Names that are asked for: of balloons, of none, and words that are no names.
NAMES = ("ann", "bo", "c", "dora", "eve", "finnja")


def shallow(plain, book, names=NAMES):
    """Pairs of what the plain book and the book tell, of all that costs little to ask."""
    told = [(("told", plain.hour), outcome(book.now)), (("told", plain.the_sky()), outcome(book.sky)),
            (("told", plain.deeds), outcome(book.done)),
            (("told", [balloon["name"] for balloon in plain.balloons]), outcome(book.names)),
            (plain.ask_race(1, -1), outcome(book.race, 1, -1))]
    for name in names:
        told += [(plain.ask_of_all(name, "fate"), outcome(book.status, name)),
                 (plain.ask_state(name), outcome(book.state, name)),
                 (plain.ask_of_all(name, "log"), outcome(book.log, name)),
                 (plain.ask_sightings(name), outcome(book.sightings, name))]
    return told


def deep(plain, book, names, many):
    """Pairs of what the plain book and the book tell, of what must be looked for."""
    told = []
    for name in names:
        told += [(plain.ask_table(name, many), outcome(book.table, name, many)),
                 (plain.ask_ways(name, many, 1, 0), outcome(book.ways, name, many, 1, 0)),
                 (plain.ask_nearest(name, many, 3, -2), outcome(book.nearest, name, many, 3, -2))]
        told += [(plain.ask_where(name, hour), outcome(book.where, name, hour))
                 for hour in range(plain.hour - 4, plain.hour + 2)]
        told += [(plain.ask_tried(name, orders), outcome(book.tried, name, orders))
                 for orders in itertools.product(ORDERS + ("sideways",), repeat=2)]
    for one, other in itertools.product(names, repeat=2):
        told.append((plain.ask_meeting(one, other, many), outcome(book.meeting, one, other, many)))
    return told


def all_told(book, names=NAMES, many=2):
    """All answers of a book, to be compared with those of another one."""
    told = [book.now(), book.sky(), book.done(), book.names(), book.race(2, 3), book.race(-1, 0)]
    many = min(many, 24 - book.now())
    for name in names:
        told += [outcome(call, name) for call in (book.status, book.state, book.log, book.sightings)]
        told += [outcome(book.where, name, hour) for hour in range(-1, book.now() + 2)]
        told += [outcome(book.table, name, many), outcome(book.tried, name, ("level", "up")[:many])]
        told += [outcome(call, name, many, 1, -1) for call in (book.ways, book.paper, book.nearest)]
        told += [outcome(book.meeting, name, other, many) for other in names]
    return told

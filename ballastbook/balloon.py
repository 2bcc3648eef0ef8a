"""A balloon of a book, and what becomes of it.

Nothing changes a balloon: whatever happens to one makes another, so that a book, its holds
and its twins can have the same ones.
"""

from ballastbook.errors import Stopped
from ballastbook.sightings import possible
from ballastbook.steps import tried

# For longer than this nobody looks for a lost balloon.
MOST_LOST = 8


class Balloon:
    """One balloon as it stands at some hour of a book.

    fate is "aloft", "landed", "lost" or "gone", and last the last state that is known of it;
    path is its log. Of a lost one, lost_at is the hour at which it was lost, and reports are
    the sightings told since.
    """

    def __init__(self, name, fate, last, path, lost_at=0, reports=()):
        self.name = name
        self.fate = fate
        self.last = last
        self.path = path
        self.lost_at = lost_at
        self.reports = reports


def launched(name, hour, state):
    """A balloon that is launched."""
    return Balloon(name, "aloft", state, ((hour,) + state,))


def aloft_at(balloon, hour, state):
    """The balloon aloft at the hour with the state, as its log tells from then on."""
    return Balloon(balloon.name, "aloft", state, balloon.path + ((hour,) + state,))


def landed(balloon):
    """The balloon where it has come down."""
    return Balloon(balloon.name, "landed", balloon.last, balloon.path)


def lost(balloon, hour):
    """The balloon lost from sight at the hour."""
    return Balloon(balloon.name, "lost", balloon.last, balloon.path, hour)


def reported(balloon, sighting):
    """The lost balloon with one more sighting told of it."""
    reports = balloon.reports + (sighting,)
    return Balloon(balloon.name, "lost", balloon.last, balloon.path, balloon.lost_at, reports)


def drifted(balloon, number, sky, hour, order):
    """The balloon an hour later, with the order if it is aloft; Stopped with its number."""
    if balloon.fate == "aloft":
        why, after = tried(sky, hour, balloon.last, order)
        if why != "":
            raise Stopped(number, why)
        return aloft_at(balloon, hour + 1, after)
    if balloon.fate == "lost" and hour + 1 - balloon.lost_at > MOST_LOST:
        return Balloon(balloon.name, "gone", balloon.last, balloon.path)
    return balloon


def whereabouts(balloon, sky, until):
    """What is possible for the lost balloon, for each hour from its losing on; NothingFits."""
    return possible(sky, balloon.lost_at, balloon.last, until, list(balloon.reports))

"""Sightings: where a balloon that was lost from sight can be."""

from ballastbook.boxes import inside
from ballastbook.errors import NothingFits
from ballastbook.steps import moves


def fits(sightings, hour, state):
    """Tell whether the state fits all of the sightings of that hour."""
    x, y, height, sacks, puffs = state
    for sighting in sightings:
        if sighting[0] == hour and inside(sighting[1:7], x, y, height) != sighting[7]:
            return False
    return True


def fitting_on(sky, hour, found, sightings):
    """The fitting states of the next hour, each with the list of those that lead to it."""
    later = {}
    for state in found:
        for order, after in moves(sky, hour, state):
            if fits(sightings, hour + 1, after):
                later.setdefault(after, []).append(state)
    return later


def fitting(sky, hour, state, until, sightings):
    """For each hour the states that fitting flights lead to, each with those that lead to it."""
    if not fits(sightings, hour, state):
        raise NothingFits(hour)
    found = [{state: []}]
    for at in range(hour, until):
        later = fitting_on(sky, at, list(found[-1]), sightings)
        if not later:
            raise NothingFits(at + 1)
        found.append(later)
    return found


def possible(sky, hour, state, until, sightings):
    """For each hour the states at which a flight over all the hours can stand; NothingFits."""
    found = fitting(sky, hour, state, until, sightings)
    stood = sorted(found[-1])
    told = [stood]
    # From the end on: what leads to no state of the next hour is no part of a whole flight.
    for later in reversed(found[1:]):
        stood = sorted({before for after in stood for before in later[after]})
        told.append(stood)
    return told[::-1]

"""The air: which boxes are shut when, and where a state may stand."""

from ballastbook.boxes import inside
from ballastbook.ground import ground_at

LAST_HOUR = 24


def shut_at(shuts, hour, x, y, height):
    """Tell whether a box that is shut at the hour holds the place at the height."""
    for shut in shuts:
        if shut[6] <= hour <= shut[7] and inside(shut[:6], x, y, height):
            return True
    return False


def closures(shuts, x, y, height):
    """The hours from 0 to 24 at which it is shut there, as stretches (first, last)."""
    told = []
    for hour in range(LAST_HOUR + 1):
        if not shut_at(shuts, hour, x, y, height):
            continue
        if told and told[-1][1] == hour - 1:
            told[-1] = (told[-1][0], hour)
        else:
            told.append((hour, hour))
    return told


def why_not_stand(sky, hour, state):
    """The word "hill" or "shut" that bars the state at the hour, or the text of no signs."""
    hills, cool, winds, shuts = sky
    x, y, height, sacks, puffs = state
    if height < ground_at(hills, x, y):
        return "hill"
    if shut_at(shuts, hour, x, y, height):
        return "shut"
    return ""


def may_stand(sky, hour, state):
    """Tell whether the state may stand at the hour."""
    return why_not_stand(sky, hour, state) == ""

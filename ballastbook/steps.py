"""An hour's flight: what an order leads to, and why it can't be flown."""

from ballastbook.air import why_not_stand
from ballastbook.boxes import TOP_HEIGHT
from ballastbook.errors import Stopped
from ballastbook.winds import wind_at

# In the order in which rows of them are put: up goes ahead of level, level ahead of down.
ORDERS = ("up", "level", "down")


def why_not_ordered(state, order):
    """The reason that the state itself gives against the order, or the text of no signs."""
    x, y, height, sacks, puffs = state
    if order == "up" and sacks < 1:
        return "sacks"
    if order == "down" and puffs < 1:
        return "puffs"
    if order == "up" and height == TOP_HEIGHT:
        return "high"
    if order == "down" and height == 0:
        return "low"
    return ""


def led_to(sky, hour, state, order):
    """The state that the order leads to, whether or not it can be flown."""
    hills, cool, winds, shuts = sky
    x, y, height, sacks, puffs = state
    if order == "up":
        height, sacks = height + 1, sacks - 1
    elif order == "down":
        height, puffs = height - 1, puffs - 1
    if hour in cool:
        height = max(height - 1, 0)
    dx, dy = wind_at(winds, hour, height)
    return (x + dx, y + dy, height, sacks, puffs)


def tried(sky, hour, state, order):
    """The pair of the reason (the text of no signs where there is none) and the state led to."""
    after = led_to(sky, hour, state, order)
    why = why_not_ordered(state, order)
    if why == "":
        why = why_not_stand(sky, hour + 1, after)
    return (why, after)


def why_not(sky, hour, state, order):
    """The reason why the order can't be flown, or the text of no signs where it can."""
    why, after = tried(sky, hour, state, order)
    return why


def next_state(sky, hour, state, order):
    """The state at the next hour; Stopped with 0 and the reason."""
    why, after = tried(sky, hour, state, order)
    if why != "":
        raise Stopped(0, why)
    return after


def moves(sky, hour, state):
    """The orders that can be flown, each with the state that it leads to, up first."""
    found = []
    for order in ORDERS:
        why, after = tried(sky, hour, state, order)
        if why == "":
            found.append((order, after))
    return found


def choices(sky, hour, state):
    """The orders that can be flown, up first, down last."""
    return [order for order, after in moves(sky, hour, state)]


def flown(sky, hour, state, orders):
    """The state and those behind each order; Stopped with the place of the one that fails."""
    told = [state]
    for at, order in enumerate(orders):
        why, after = tried(sky, hour + at, told[-1], order)
        if why != "":
            raise Stopped(at, why)
        told.append(after)
    return told

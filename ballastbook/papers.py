"""Papers: lists of states, hour by hour, that show that a place can't be reached."""

from ballastbook.steps import moves
from ballastbook.tables import first_over, loads_by_spot, table


def paper(sky, hour, state, many, x, y):
    """A paper that bars the place, or None where there is a way to it."""
    rows = table(sky, hour, state, many)
    if first_over(rows, x, y) is None:
        return rows
    return None


def covered(loads, state):
    """Tell whether a state, of those whose loads are told by place and height, covers the state."""
    for sacks, puffs in loads.get(state[:3], []):
        if sacks >= state[3] and puffs >= state[4]:
            return True
    return False


def leads_into(sky, hour, found, later):
    """Tell whether all that orders lead to from the states is covered by the later ones."""
    loads = loads_by_spot(later)
    for state in found:
        for order, after in moves(sky, hour, state):
            if not covered(loads, after):
                return False
    return True


def closed(sky, hour, state, rows):
    """Tell whether the lists cover the state and whatever flights lead to from there."""
    if not covered(loads_by_spot(rows[0]), state):
        return False
    for at in range(len(rows) - 1):
        if not leads_into(sky, hour + at, rows[at], rows[at + 1]):
            return False
    return True


def bars(sky, hour, state, many, x, y, rows):
    """Tell whether the lists are a paper for the state, hour and many that bars the place."""
    if len(rows) != many + 1 or first_over(rows, x, y) is not None:
        return False
    return closed(sky, hour, state, rows)

"""Races: how far places are apart, who is nearest, and how near one can come."""

from ballastbook.tables import table


def distance(x, y, to_x, to_y):
    """How far the x and how far the y of two places are apart, together."""
    return abs(x - to_x) + abs(y - to_y)


def ranked(states, x, y):
    """The places of the states in their list, as they rank for the place (x, y)."""
    ranks = []
    for at, state in enumerate(states):
        ranks.append((distance(state[0], state[1], x, y), -state[4], -state[3], at))
    return [at for far, puffs, sacks, at in sorted(ranks)]


def nearest(sky, hour, state, many, x, y):
    """The pair of the least distance from the place within many hours, and its first hour."""
    # At each place and height that flights lead to some state is unbeaten: the table is enough.
    told = (distance(state[0], state[1], x, y), hour)
    for at, found in enumerate(table(sky, hour, state, many)):
        for other in found:
            told = min(told, (distance(other[0], other[1], x, y), hour + at))
    return told

"""Needs: what a balloon must have to reach a place."""

from ballastbook.fronts import least
from ballastbook.tables import table

MOST = 6


def needed(sky, hour, many, x, y, height, to_x, to_y):
    """The least pairs with which a state at the place and height has a way to the other place."""
    # What a load bars is only what it can't pay for: the flights with a full one show all costs.
    costs = []
    for found in table(sky, hour, (x, y, height, MOST, MOST), many):
        for over_x, over_y, over_height, sacks, puffs in found:
            if (over_x, over_y) == (to_x, to_y):
                costs.append((MOST - sacks, MOST - puffs))
    return least(costs)

"""Plans: the ways to a place, and the best of them."""

from ballastbook.fronts import front
from ballastbook.steps import ORDERS
from ballastbook.tables import first_flights


def in_order(row):
    """A list that compares with another one as the rows themselves are put in order."""
    return [ORDERS.index(order) for order in row]


def first_rows(sky, hour, state, many, x, y):
    """For each pair that a state of the table has left over the place, the first row to it."""
    firsts = {}
    for flights in first_flights(sky, hour, state, many):
        for (over_x, over_y, height, sacks, puffs), row in flights.items():
            if (over_x, over_y) != (x, y):
                continue
            known = firsts.get((sacks, puffs))
            if known is None or in_order(row) < in_order(known):
                firsts[(sacks, puffs)] = row
    return firsts


def ways(sky, hour, state, many, x, y):
    """The ways (sacks, puffs, orders) to the place, by rising sacks."""
    # With a pair of the front no flight passes a state that is beaten, since the same orders
    # from the one that beats it would keep more: the table's states are enough.
    firsts = first_rows(sky, hour, state, many, x, y)
    return [(sacks, puffs, firsts[(sacks, puffs)]) for sacks, puffs in front(list(firsts))]


def best(sky, hour, state, many, x, y):
    """The flight to the place that keeps the most puffs, then the most sacks, or None."""
    told = ways(sky, hour, state, many, x, y)
    if not told:
        return None
    # Along a front the sacks rise and the puffs fall.
    sacks, puffs, orders = told[0]
    return orders

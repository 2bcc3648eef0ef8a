"""Tables: which states flights lead to, hour by hour."""

from ballastbook.fronts import front
from ballastbook.steps import moves


def loads_by_spot(found):
    """What is left, as a list of pairs, for each place and height of the states."""
    loads = {}
    for x, y, height, sacks, puffs in found:
        loads.setdefault((x, y, height), []).append((sacks, puffs))
    return loads


def unbeaten(flights):
    """The flights whose states no other one at the same place and height beats."""
    fronts = {spot: front(pairs) for spot, pairs in loads_by_spot(list(flights)).items()}
    return {state: row for state, row in flights.items() if state[3:] in fronts[state[:3]]}


def flown_on(sky, hour, flights):
    """The states that one more order leads to, each with the first row that leads there."""
    further = {}
    # The flights stand in order, and so do the longer ones: the first that comes counts.
    for state, row in flights.items():
        for order, after in moves(sky, hour, state):
            if after not in further:
                further[after] = row + (order,)
    return further


def first_flights(sky, hour, state, many):
    """For each hour the states of the table, each with the first flight that leads there."""
    found = [{state: ()}]
    for at in range(many):
        # A beaten state leads to nothing but beaten ones, so it can be left out at once.
        found.append(unbeaten(flown_on(sky, hour + at, found[-1])))
    return found


def table(sky, hour, state, many):
    """For each hour the states that flights lead to and none beats there, rising."""
    return [sorted(flights) for flights in first_flights(sky, hour, state, many)]


def counted(sky, hour, state, many):
    """How many flights of just many orders lead to each state that they lead to."""
    counts = {state: 1}
    for at in range(many):
        further = {}
        for before, count in counts.items():
            for order, after in moves(sky, hour + at, before):
                further[after] = further.get(after, 0) + count
        counts = further
    return counts


def states(sky, hour, state, many):
    """All states to which flights of just many orders lead, each once, rising."""
    return sorted(counted(sky, hour, state, many))


def count_flights(sky, hour, state, many):
    """How many flights of just many orders there are."""
    return sum(counted(sky, hour, state, many).values())


def first_over(rows, x, y):
    """The place of the first list in which a state stands over the place, or None."""
    for at, found in enumerate(rows):
        for state in found:
            if state[0] == x and state[1] == y:
                return at
    return None

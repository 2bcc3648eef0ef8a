"""What the tests share: the document's words done the long way, and skies to try them on.

Nothing here uses the package: every row of orders is tried, every pair looked at.
"""

import itertools

ORDERS = ("up", "level", "down")
RANK = {"up": 0, "level": 1, "down": 2}
CALM = ([], [], [], [])


def plain_ground(hills, x, y):
    return max([0] + [hill[2] for hill in hills if hill[:2] == (x, y)])


def plain_wind(winds, hour, height):
    blowing = [(wind[0], at) for at, wind in enumerate(winds)
               if wind[1] == height and not wind[0] > hour]
    return winds[max(blowing)[1]][2:] if blowing else (0, 0)


def plain_holds(box, x, y, height):
    x1, y1, x2, y2, low, high = box
    return x in range(x1, x2 + 1) and y in range(y1, y2 + 1) and height in range(low, high + 1)


def plain_shut(shuts, hour, x, y, height):
    return any(hour in range(shut[6], shut[7] + 1) and plain_holds(shut[:6], x, y, height)
               for shut in shuts)


def plain_step(sky, hour, state, order):
    """The pair of the reason and the state led to, by [7] and [8]: one of them is None."""
    hills, cool, winds, shuts = sky
    x, y, height, sacks, puffs = state
    if order == "up" and not sacks:
        return ("sacks", None)
    if order == "down" and not puffs:
        return ("puffs", None)
    if (order, height) == ("up", 5):
        return ("high", None)
    if (order, height) == ("down", 0):
        return ("low", None)
    climb = {"up": 1, "level": 0, "down": -1}[order]
    height += climb
    if hour in cool and height > 0:
        height -= 1
    dx, dy = plain_wind(winds, hour, height)
    after = (x + dx, y + dy, height, sacks - (climb == 1), puffs - (climb == -1))
    if height < plain_ground(hills, after[0], after[1]):
        return ("hill", None)
    if plain_shut(shuts, hour + 1, after[0], after[1], height):
        return ("shut", None)
    return (None, after)


def plain_flown(sky, hour, state, row):
    """The states of a row that is a flight, or None."""
    told = [state]
    for at, order in enumerate(row):
        why, after = plain_step(sky, hour + at, told[-1], order)
        if why is not None:
            return None
        told.append(after)
    return told


def all_flights(sky, hour, state, many):
    """All flights of just many orders, in order, each with its states, out of all rows."""
    tried = [(row, plain_flown(sky, hour, state, row))
             for row in itertools.product(ORDERS, repeat=many)]
    return [(row, stood) for row, stood in tried if stood is not None]


def flights_up_to(sky, hour, state, many):
    """All flights of at most many orders, each with its states."""
    return [flight for length in range(many + 1)
            for flight in all_flights(sky, hour, state, length)]


def in_order(row):
    """A key that sorts rows as [9] puts them."""
    return [RANK[order] for order in row]


def plain_beats(one, other):
    return one != other and all(mine >= theirs for mine, theirs in zip(one, other))


def plain_front(pairs):
    return sorted({pair for pair in pairs if not any(plain_beats(other, pair) for other in pairs)})


def plain_least(pairs):
    return sorted({pair for pair in pairs if not any(plain_beats(pair, other) for other in pairs)})


def plain_thinned(found):
    """The states that no other one at the same place and height beats, rising."""
    return sorted({state for state in found
                   if not any(other[:3] == state[:3] and plain_beats(other[3:], state[3:])
                              for other in found)})


def plain_covers(one, other):
    return one[:3] == other[:3] and one[3] >= other[3] and one[4] >= other[4]


def plain_bars(sky, hour, state, many, x, y, rows):
    """Whether the lists are a paper that bars the place, walked order by order as [15] tells."""
    if len(rows) != many + 1:
        return False
    if any(other[:2] == (x, y) for found in rows for other in found):
        return False
    if not any(plain_covers(other, state) for other in rows[0]):
        return False
    for at, found in enumerate(rows[:-1]):
        for before in found:
            for order in ORDERS:
                why, after = plain_step(sky, hour + at, before, order)
                if why is None and not any(plain_covers(other, after) for other in rows[at + 1]):
                    return False
    return True


def plain_fits(sightings, hour, state):
    return all(plain_holds(sighting[1:7], *state[:3]) == sighting[7]
               for sighting in sightings if sighting[0] == hour)


def plain_possible(sky, hour, state, until, sightings):
    """What is possible, by trying all rows: a list of lists, or the hour of the refusal."""
    for length in range(until - hour + 1):
        left = [stood for row, stood in all_flights(sky, hour, state, length)
                if all(plain_fits(sightings, hour + at, other) for at, other in enumerate(stood))]
        if not left:
            return hour + length
    return [sorted({stood[at] for stood in left}) for at in range(until - hour + 1)]


def copied(sky):
    return tuple(list(part) for part in sky)


def some_box(chance, reach):
    x1, x2 = sorted(chance.randint(-reach, reach) for end in range(2))
    y1, y2 = sorted(chance.randint(-reach, reach) for end in range(2))
    low, high = sorted(chance.randint(0, 5) for end in range(2))
    return (x1, y1, x2, y2, low, high)


def some_sky(chance, hour=0, reach=4):
    """A sky around the place (0, 0), for the eight hours from the hour on."""
    hills = [(chance.randint(-reach, reach), chance.randint(-reach, reach), chance.randint(1, 5))
             for number in range(chance.randint(0, 8))]
    cool = [at for at in range(24) if chance.random() < 0.3]
    winds = [(chance.randint(max(hour - 1, 0), min(hour + 7, 23)), chance.randint(0, 5),
              chance.randint(-2, 2), chance.randint(-2, 2)) for number in range(chance.randint(0, 20))]
    shuts = []
    for number in range(chance.randint(0, 4)):
        first = chance.randint(hour, min(hour + 8, 24))
        shuts.append(some_box(chance, reach) + (first, min(first + chance.randint(0, 3), 24)))
    return (hills, cool, winds, shuts)


def some_state(chance, most=6):
    return (chance.randint(-1, 1), chance.randint(-1, 1), chance.randint(0, 5),
            chance.randint(0, most), chance.randint(0, most))


# Hills, cool hours, winds and shuttings that bar some orders around (0, 0), and not others.
BARRED_SKY = (
    [(1, 0, 2), (2, 0, 1), (2, 0, 4), (0, 2, 5), (-1, 1, 1)],
    [2, 5],
    [(0, 0, 0, 1), (1, 0, -1, 0), (0, 1, 1, 0), (2, 1, 1, 1), (0, 2, 1, 0), (3, 2, 0, -1),
     (1, 3, -1, 0), (4, 3, 1, 1), (0, 5, 0, 1), (2, 5, 2, -1)],
    [(-1, -1, 1, 1, 4, 4, 1, 2), (2, -2, 4, 2, 0, 1, 4, 6)],
)

# A hill as high as can be where the only wind leads to: from (0, 0) nothing can be flown.
WALLED_SKY = ([(1, 1, 5)], list(range(24)), [(0, height, 1, 1) for height in range(6)], [])

# From (0, 0) at height 1 both up and down lead along to (1, 0), level doesn't, and the cool
# hours behind bring both to the ground: two loads there, none of which beats the other.
FORKED_SKY = ([], [1, 2], [(0, 0, 1, 0), (0, 2, 1, 0), (1, 0, 0, 0), (1, 2, 0, 0)], [])

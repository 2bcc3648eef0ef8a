"""Winds: tuples (first, height, dx, dy), and which of them blows when."""

WIND_HOURS = 24


def wind_at(winds, hour, height):
    """The wind (dx, dy) that blows at the hour and the height."""
    blowing = None
    for wind in winds:
        if wind[1] != height or wind[0] > hour:
            continue
        # Not below, rather than above: of one first hour the last told blows.
        if blowing is None or wind[0] >= blowing[0]:
            blowing = wind
    if blowing is None:
        return (0, 0)
    return (blowing[2], blowing[3])


def spells(winds, height):
    """The hours from 0 to 23 parted by the wind of the height: (first, last, dx, dy)."""
    told = []
    for hour in range(WIND_HOURS):
        dx, dy = wind_at(winds, hour, height)
        if told and told[-1][2:] == (dx, dy):
            told[-1] = (told[-1][0], hour, dx, dy)
        else:
            told.append((hour, hour, dx, dy))
    return told

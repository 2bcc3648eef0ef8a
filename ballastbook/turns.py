"""Turns and moves: the same sky and states by a quarter turn, or somewhere else."""


def turned_state(state):
    """The state by a quarter turn."""
    x, y, height, sacks, puffs = state
    return (-y, x, height, sacks, puffs)


def turned_shut(shut):
    """The shutting with its box by a quarter turn."""
    x1, y1, x2, y2, low, high, first, last = shut
    # The turn makes the greatest y the least x: the ends change places.
    return (-y2, x1, -y1, x2, low, high, first, last)


def turned_sky(sky):
    """The sky by a quarter turn."""
    hills, cool, winds, shuts = sky
    return (
        [(-y, x, top) for x, y, top in hills],
        list(cool),
        [(first, height, -dy, dx) for first, height, dx, dy in winds],
        [turned_shut(shut) for shut in shuts],
    )


def moved_state(state, dx, dy):
    """The state moved by dx and dy."""
    x, y, height, sacks, puffs = state
    return (x + dx, y + dy, height, sacks, puffs)


def moved_shut(shut, dx, dy):
    """The shutting with its box moved by dx and dy."""
    x1, y1, x2, y2, low, high, first, last = shut
    return (x1 + dx, y1 + dy, x2 + dx, y2 + dy, low, high, first, last)


def moved_sky(sky, dx, dy):
    """The sky moved by dx and dy; its winds stay."""
    hills, cool, winds, shuts = sky
    return (
        [(x + dx, y + dy, top) for x, y, top in hills],
        list(cool),
        list(winds),
        [moved_shut(shut, dx, dy) for shut in shuts],
    )

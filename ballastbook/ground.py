"""The ground: hills are tuples (x, y, top), and the greatest top of a place counts."""


def ground_at(hills, x, y):
    """The height of the ground at the place, 0 where there is no hill."""
    tops = [top for hill_x, hill_y, top in hills if hill_x == x and hill_y == y]
    return max(tops, default=0)


def on_ground(hills, state):
    """Tell whether the state's height is the ground at its place."""
    x, y, height, sacks, puffs = state
    return height == ground_at(hills, x, y)

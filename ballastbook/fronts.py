"""Pairs (sacks, puffs) of what is left: which beat which, their front and their least."""


def beats(one, other):
    """Tell whether the one pair has as many or more of both and isn't the same."""
    return one[0] >= other[0] and one[1] >= other[1] and one != other


def front(pairs):
    """The pairs that none of the list beats, each once, by rising sacks."""
    told = []
    # From the most sacks on, only more puffs than all ahead keep a pair from being beaten.
    for pair in reversed(sorted(pairs)):
        if not told or pair[1] > told[-1][1]:
            told.append(pair)
    return told[::-1]


def least(pairs):
    """The pairs that beat none of the list, each once, by rising sacks."""
    told = []
    # From the fewest sacks on, only fewer puffs than all ahead keep a pair from beating one.
    for pair in sorted(pairs):
        if not told or pair[1] < told[-1][1]:
            told.append(pair)
    return told


def joined(one, other):
    """The front of the pairs of two lists together."""
    return front(one + other)

"""Meetings: when and where two balloons can first stand over one place."""

from ballastbook.tables import table


def places(found):
    """The places that the states stand over, as the keys of a dict."""
    return {(state[0], state[1]): True for state in found}


def first_meeting(sky, hour, one, other, many):
    """The pair of the first hour and the places where both can stand then, or None."""
    # At each place and height that flights lead to some state is unbeaten: tables miss no place.
    ones = table(sky, hour, one, many)
    others = table(sky, hour, other, many)
    for at in range(many + 1):
        theirs = places(others[at])
        both = sorted([place for place in places(ones[at]) if place in theirs])
        if both:
            return (hour + at, both)
    return None

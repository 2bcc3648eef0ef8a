"""What a book looks at ahead of all it does: each of these refuses what is beyond its bounds."""

from ballastbook.air import LAST_HOUR
from ballastbook.boxes import BOOK_EDGE, TOP_HEIGHT, good_box
from ballastbook.errors import (
    BadBox, BadHeight, BadHour, BadLoad, BadName, BadOrder, BadPlace, BadWind, Full, Past, Twice)
from ballastbook.steps import ORDERS
from ballastbook.winds import WIND_HOURS

LETTERS = "abcdefghijklmnopqrstuvwxyz"
LONGEST_NAME = 6
MOST_HILLS = 20
MOST_COOL = 24
MOST_LEFT = 6
MOST_HOURS = 8
STRONGEST = 2


def check_place(x, y):
    """BadPlace beyond the edge of a book."""
    if not (-BOOK_EDGE <= x <= BOOK_EDGE and -BOOK_EDGE <= y <= BOOK_EDGE):
        raise BadPlace()


def check_height(height):
    """BadHeight for what is no height."""
    if not 0 <= height <= TOP_HEIGHT:
        raise BadHeight()


def check_state(state):
    """BadPlace, BadHeight or BadLoad."""
    x, y, height, sacks, puffs = state
    check_place(x, y)
    check_height(height)
    if not (0 <= sacks <= MOST_LEFT and 0 <= puffs <= MOST_LEFT):
        raise BadLoad()


def check_box(box):
    """BadBox for what is no box of a book."""
    if not good_box(box):
        raise BadBox()


def check_name(name):
    """BadName for what isn't one to six small letters."""
    if not 1 <= len(name) <= LONGEST_NAME or not all([sign in LETTERS for sign in name]):
        raise BadName()


def check_order(order):
    """BadOrder for what is none of the three."""
    if order not in ORDERS:
        raise BadOrder()


def check_between(hour, first, last):
    """BadHour for an hour that isn't one from the first to the last."""
    if not first <= hour <= last:
        raise BadHour()


def check_many(hour, many):
    """BadHour for more hours than may be asked for from the hour on, or fewer than none."""
    check_between(many, 0, min(MOST_HOURS, LAST_HOUR - hour))


def check_wind(now, wind):
    """BadHour, Past, BadHeight or BadWind."""
    first, height, dx, dy = wind
    check_between(first, 0, WIND_HOURS - 1)
    if first < now:
        raise Past()
    check_height(height)
    if not (-STRONGEST <= dx <= STRONGEST and -STRONGEST <= dy <= STRONGEST):
        raise BadWind()


def check_shut(now, box, first, last):
    """BadBox, BadHour or Past."""
    check_box(box)
    check_between(first, 0, LAST_HOUR)
    check_between(last, first, LAST_HOUR)
    if first <= now:
        raise Past()


def check_hill(hill):
    """BadPlace, or BadHeight for what is no top."""
    x, y, top = hill
    check_place(x, y)
    if not 1 <= top <= TOP_HEIGHT:
        raise BadHeight()


def check_opening(hills, cool):
    """Full, then the refusals of the hills, then BadHour or Twice of the cool hours."""
    if len(hills) > MOST_HILLS or len(cool) > MOST_COOL:
        raise Full()
    for hill in hills:
        check_hill(hill)
    for at, hour in enumerate(cool):
        check_between(hour, 0, WIND_HOURS - 1)
        if hour in cool[:at]:
            raise Twice()

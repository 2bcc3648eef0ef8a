"""Deeds by chance, most of which a book takes, for the tests that compare books."""

from tests.plain import ORDERS, some_box
from tests.plain_book import KINDS, NAMES, PlainBook


def some_opening(chance):
    hills = [(chance.randint(-4, 4), chance.randint(-4, 4), chance.randint(1, 3))
             for number in range(chance.randint(0, 4))]
    cool = chance.sample(range(24), chance.randint(0, 6))
    return hills, cool


def astray(chance, low, high):
    """A number from low to high, seldom one beside or far from them."""
    if chance.random() < 0.04:
        return chance.choice((low - 1, high + 1, -1000, 1000))
    return chance.randint(low, high)


def some_name(chance, plain, fate=None):
    """A name, most times that of a balloon of the fate."""
    having = [balloon["name"] for balloon in plain.balloons if fate in (None, balloon["fate"])]
    if having and chance.random() < 0.93:
        return chance.choice(having)
    return chance.choice(NAMES + ("Ann", "", "abcdefg", "a1"))


def some_wind(chance, plain):
    return (astray(chance, min(plain.hour, 23), 23), astray(chance, 0, 5),
            astray(chance, -2, 2), astray(chance, -2, 2))


def some_shut(chance, plain):
    first = astray(chance, min(plain.hour + 1, 24), 24)
    last = min(first + chance.randint(0, 3), 24) if chance.random() < 0.95 else first - 1
    return some_box(chance, 4) + (first, last)


def some_launch(chance, plain):
    free = [name for name in NAMES if plain.the_one(name) is None]
    name = chance.choice(free) if free and chance.random() < 0.9 else some_name(chance, plain)
    return (name, astray(chance, -3, 3), astray(chance, -3, 3), astray(chance, 0, 5),
            astray(chance, 0, 6), astray(chance, 0, 6))


def some_drift(chance, plain):
    pairs = []
    for balloon in plain.balloons:
        if balloon["fate"] == "aloft" and chance.random() < 0.6:
            pairs.append((balloon["name"], chance.choice(ORDERS)))
    if chance.random() < 0.1:
        pairs.append((some_name(chance, plain), chance.choice(ORDERS + ("sideways",))))
    chance.shuffle(pairs)
    return (tuple(pairs),)


def some_sighting(chance, plain):
    name = some_name(chance, plain, "lost")
    balloon = plain.the_one(name)
    begun = balloon["lost_at"] if balloon and balloon["fate"] == "lost" else plain.hour
    box = some_box(chance, 8) if chance.random() < 0.95 else (0, 0, chance.choice((-1, 1000)), 0, 0, 0)
    return (name, astray(chance, begun, plain.hour)) + box


def some_regain(chance, plain):
    name = some_name(chance, plain, "lost")
    balloon = plain.the_one(name)
    if balloon and balloon["fate"] == "lost" and chance.random() < 0.8:
        found = plain.paths(balloon, balloon["told"])
        if not isinstance(found, int):
            return (name,) + chance.choice(found)[-1]
    return (name,) + some_launch(chance, plain)[1:]


def some_deed(chance, plain):
    """A deed that may follow those of the plain book."""
    kind = chance.choices(KINDS, weights=(4, 2, 4, 10, 1, 3, 3, 3, 2))[0]
    parts = {
        "wind": some_wind, "shut": some_shut, "launch": some_launch, "drift": some_drift,
        "land": lambda chance, plain: (some_name(chance, plain, "aloft"),),
        "lose": lambda chance, plain: (some_name(chance, plain, "aloft"),),
        "seen": some_sighting, "unseen": some_sighting, "regain": some_regain,
    }[kind](chance, plain)
    return (kind,) + parts


def some_plain_book(chance, tries=40):
    """A plain book that did some deeds."""
    plain = PlainBook(*some_opening(chance))
    for number in range(tries):
        plain.do(some_deed(chance, plain))
    return plain

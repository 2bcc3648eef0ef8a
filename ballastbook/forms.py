"""The forms of rows and lines: words with one blank between, some of them numbers."""

MOST_FIGURES = 6
# Where one of these stands in a form any word may stand, elsewhere only a number.
WORDS = ("NAME", "OTHER")
# What stands behind the first word of a deed; drift has pairs there, however many.
DEED_FORMS = {
    "wind": "FIRST HEIGHT DX DY",
    "shut": "X1 Y1 X2 Y2 LOW HIGH FIRST LAST",
    "launch": "NAME X Y HEIGHT SACKS PUFFS",
    "land": "NAME",
    "lose": "NAME",
    "seen": "NAME HOUR X1 Y1 X2 Y2 LOW HIGH",
    "unseen": "NAME HOUR X1 Y1 X2 Y2 LOW HIGH",
    "regain": "NAME X Y HEIGHT SACKS PUFFS",
}


def words_of(line):
    """The words of the line, or a list of none where one of them is empty."""
    words = line.split(" ")
    if "" in words:
        return []
    return words


def number_told(word):
    """The number that the word tells, or None where it isn't just so written."""
    figures = word.removeprefix("-")
    if len(figures) > MOST_FIGURES or not (figures.isascii() and figures.isdigit()):
        return None
    number = int(word)
    # Needless noughts, and a sign ahead of 0, are not written.
    if str(number) != word:
        return None
    return number


def parts_of(words, form):
    """The words and numbers that stand where the form has its parts, or None where it isn't met."""
    parts = form.split()
    if len(words) != len(parts):
        return None
    told = []
    for word, part in zip(words, parts):
        value = word if part in WORDS else number_told(word)
        if value is None:
            return None
        told.append(value)
    return told


def drift_of(words):
    """The deed of a drift with the words behind it, or None where they are no pairs."""
    if len(words) % 2 != 0:
        return None
    return ("drift", tuple([(words[at], words[at + 1]) for at in range(0, len(words), 2)]))


def deed_of(words):
    """The deed that the words of a row tell, or None where they are of no deed's form."""
    kind = words[0]
    if kind == "drift":
        return drift_of(words[1:])
    if kind not in DEED_FORMS:
        return None
    parts = parts_of(words[1:], DEED_FORMS[kind])
    if parts is None:
        return None
    return (kind,) + tuple(parts)


def told_words(parts):
    """The parts with a blank between."""
    return " ".join([str(part) for part in parts])

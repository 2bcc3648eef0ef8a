"""The desk: a book that is spoken to in lines of text."""

from ballastbook.book import Book, do_deed
from ballastbook.errors import BookError
from ballastbook.forms import deed_of, parts_of, told_words, words_of


def told_names(names):
    """The names with a blank between, or none."""
    return " ".join(names) if names else "none"


def told_tuples(tuples):
    """The tuples as a list of them is written."""
    return "; ".join([told_words(parts) for parts in tuples]) if tuples else "none"


def say_hold(book, parts):
    """Answer hold."""
    return f"hold {book.hold()}"


def say_back(book, parts):
    """Answer back NUMBER."""
    return f"back {book.back(parts[0])}"


def say_hour(book, parts):
    """Answer hour."""
    return f"hour {book.now()}"


def say_names(book, parts):
    """Answer names."""
    return told_names(book.names())


def say_status(book, parts):
    """Answer status NAME."""
    return book.status(parts[0])


def say_state(book, parts):
    """Answer state NAME."""
    return told_words(book.state(parts[0]))


def say_log(book, parts):
    """Answer log NAME."""
    return told_tuples(book.log(parts[0]))


def say_reach(book, parts):
    """Answer reach NAME MANY."""
    name, many = parts
    return told_tuples(book.table(name, many)[-1])


def say_ways(book, parts):
    """Answer ways NAME MANY X Y."""
    name, many, x, y = parts
    found = book.ways(name, many, x, y)
    return told_tuples([(sacks, puffs) + orders for sacks, puffs, orders in found])


def say_bar(book, parts):
    """Answer bar NAME MANY X Y."""
    name, many, x, y = parts
    return "open" if book.paper(name, many, x, y) is None else "barred"


def say_near(book, parts):
    """Answer near NAME MANY X Y."""
    name, many, x, y = parts
    return told_words(book.nearest(name, many, x, y))


def say_meet(book, parts):
    """Answer meet NAME OTHER MANY."""
    name, other, many = parts
    met = book.meeting(name, other, many)
    if met is None:
        return "never"
    hour, places = met
    return told_tuples([(hour,)] + places)


def say_where(book, parts):
    """Answer where NAME HOUR."""
    name, hour = parts
    return told_tuples(book.where(name, hour))


def say_race(book, parts):
    """Answer race X Y."""
    x, y = parts
    return told_names(book.race(x, y))


# What stands behind the first word of a line that is no deed; try has orders, however many.
LINE_FORMS = {
    "hold": "",
    "back": "NUMBER",
    "hour": "",
    "names": "",
    "status": "NAME",
    "state": "NAME",
    "log": "NAME",
    "reach": "NAME MANY",
    "ways": "NAME MANY X Y",
    "bar": "NAME MANY X Y",
    "near": "NAME MANY X Y",
    "meet": "NAME OTHER MANY",
    "where": "NAME HOUR",
    "race": "X Y",
}
ANSWERS = {
    "hold": say_hold,
    "back": say_back,
    "hour": say_hour,
    "names": say_names,
    "status": say_status,
    "state": say_state,
    "log": say_log,
    "reach": say_reach,
    "ways": say_ways,
    "bar": say_bar,
    "near": say_near,
    "meet": say_meet,
    "where": say_where,
    "race": say_race,
}


def answer_line(book, words):
    """The answer to a line of one of the forms above, or None where the words aren't of it."""
    kind = words[0]
    parts = parts_of(words[1:], LINE_FORMS[kind])
    if parts is None:
        return None
    answer = ANSWERS[kind]
    return answer(book, parts)


def answer_try(book, words):
    """The answer to try NAME ORDERS, or None where there is no name."""
    if len(words) < 2:
        return None
    return told_words(book.tried(words[1], tuple(words[2:]))[-1])


def answer_deed(book, words):
    """The answer to a deed, or None where the words tell none."""
    deed = deed_of(words)
    if deed is None:
        return None
    return f"deed {do_deed(book, deed)}"


def answered(book, words):
    """The answer to the words of a line, or None where they are of no form."""
    if not words:
        return None
    if words[0] == "try":
        return answer_try(book, words)
    if words[0] in LINE_FORMS:
        return answer_line(book, words)
    return answer_deed(book, words)


class Desk:
    """A desk with a book of its own."""

    def __init__(self, hills, cool):
        self.book = Book(hills, cool)

    def say(self, line):
        """The answer to a line."""
        try:
            told = answered(self.book, words_of(line))
        except BookError as refusal:
            return f"no {refusal.said}"
        if told is None:
            return "no line"
        return told

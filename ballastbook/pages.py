"""Pages: books written as text, and read back."""

from ballastbook.book import Book, do_deed
from ballastbook.errors import BookError, NoPage
from ballastbook.forms import deed_of, parts_of, told_words, words_of


def deed_text(deed):
    """The row of a deed."""
    if deed[0] == "drift":
        return told_words(["drift"] + [word for pair in deed[1] for word in pair])
    return told_words(deed)


def written(book):
    """The book as a text."""
    hills, cool, winds, shuts = book.sky()
    rows = ["book"]
    rows.extend([told_words(("hill",) + hill) for hill in hills])
    rows.extend([told_words(("cool", hour)) for hour in cool])
    rows.extend([deed_text(deed) for deed in book.done()])
    return "\n".join(rows)


def with_hill(book, words):
    """The book opened with one more hill, or None where no hill can stand there."""
    hills, cool, winds, shuts = book.sky()
    hill = parts_of(words, "X Y TOP")
    if hill is None or cool or book.done():
        return None
    return Book(hills + [tuple(hill)], cool)


def with_cool(book, words):
    """The book opened with one more cool hour, or None where none can stand there."""
    hills, cool, winds, shuts = book.sky()
    hour = parts_of(words, "HOUR")
    if hour is None or book.done():
        return None
    return Book(hills, cool + hour)


def with_deed(book, words):
    """The book with one more deed done, or None where the words tell none."""
    deed = deed_of(words)
    if deed is None:
        return None
    do_deed(book, deed)
    return book


def read_on(book, row):
    """The book that the row makes of the one that the rows ahead of it tell, or None."""
    words = words_of(row)
    if not words:
        return None
    try:
        if words[0] == "hill":
            return with_hill(book, words[1:])
        if words[0] == "cool":
            return with_cool(book, words[1:])
        return with_deed(book, words)
    except BookError:
        return None


def read_page(text):
    """The book that the text tells; NoPage with the number of the first wrong row."""
    rows = text.split("\n")
    if rows[0] != "book":
        raise NoPage(0)
    book = Book([], [])
    for at, row in enumerate(rows[1:], start=1):
        book = read_on(book, row)
        if book is None:
            raise NoPage(at)
    return book

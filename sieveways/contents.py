"""What a house holds at one time, and what it holds behind a change."""

from sieveways.books import Book
from sieveways.data import copied, is_datum
from sieveways.errors import Failed, InvalidDatum, InvalidDeed, NoName, NoOutcome, TooLong
from sieveways.words import is_free_name

KINDS = ("filter", "shape", "datum")
MOST_STEPS_OF_A_DEED = 2000


class Content:
    """A book, and data with names; nothing in it is ever changed."""

    def __init__(self, shelf, table):
        self.shelf = shelf
        self.table = table
        self.names = sorted(table)


def first_content(book, data):
    """The content of a new house; raises InvalidDatum."""
    for name in sorted(data):
        if not is_datum(data[name]):
            raise InvalidDatum(data[name])
    return Content(book, {name: copied(data[name]) for name in data})


def content_behind(content, deeds):
    """The content behind a change; raises the errors of a change."""
    for index, deed in enumerate(deeds):
        if not _is_deed(deed):
            raise InvalidDeed(index)
    held = {"filter": content.shelf.filters, "shape": content.shelf.shapes, "datum": dict(content.table)}
    for deed in deeds:
        if deed[0] == "gone":
            _take_away(held[deed[1]], deed[2])
        elif deed[0] == "datum":
            held["datum"][deed[1]] = copied(deed[2])
        elif deed[0] != "do":
            held[deed[0]][deed[1]] = deed[2]
    book = Book(held["filter"], held["shape"])
    for index, deed in enumerate(deeds):
        if deed[0] == "do":
            held["datum"][deed[1]] = _done(book, held["datum"], deed, index)
    return Content(book, held["datum"])


def _is_deed(value):
    """Whether any value has the form of a deed of a house."""
    if not isinstance(value, tuple) or len(value) != 3 or not isinstance(value[0], str):
        return False
    word, first, second = value
    if word in ("filter", "shape"):
        return is_free_name(first)
    if word == "datum":
        return is_free_name(first) and is_datum(second)
    if word == "gone":
        return isinstance(first, str) and first in KINDS and is_free_name(second)
    return word == "do" and is_free_name(first) and is_free_name(second)


def _take_away(entries, name):
    if name not in entries:
        raise NoName(name)
    del entries[name]


def _done(book, table, deed, index):
    """The first outcome of a filter on a datum; raises NoName, Failed, NoOutcome and TooLong."""
    _, name, word = deed
    if name not in table:
        raise NoName(name)
    told = book.tell(word, table[name], limit=MOST_STEPS_OF_A_DEED)
    if told.outcomes:
        return told.outcomes[0]
    if told.ending == "failing":
        raise Failed(index, told.failure)
    if told.ending == "done":
        raise NoOutcome(index)
    raise TooLong(index)

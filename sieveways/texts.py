"""Texts of filters, tests and data."""

from sieveways.gathering import datum_read
from sieveways.reading import part_read
from sieveways.writing import datum_pieces, term_pieces


def write_term(term):
    """The least text of a filter."""
    return " ".join(term_pieces(term))


def write_test(test):
    """The least text of a test."""
    return " ".join(term_pieces(test))


def write_datum(datum):
    """The least text of a datum."""
    return " ".join(datum_pieces(datum))


def read_term(text):
    """The filter that a text tells."""
    part, _ = part_read(text, "filter")
    return part.term


def read_test(text):
    """The test that a text tells."""
    part, _ = part_read(text, "test")
    return part.term


def read_datum(text):
    """The datum that a text tells."""
    return datum_read(text)

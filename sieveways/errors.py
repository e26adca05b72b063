"""The errors of the package: each stands below one of Python's errors and keeps its fields."""


class InvalidDatum(ValueError):
    """A value that is no datum where one must stand."""

    def __init__(self, value):
        self.value = value


class InvalidFilter(ValueError):
    """A value that is no closed filter where one must stand."""

    def __init__(self, value):
        self.value = value


class InvalidLimit(ValueError):
    """A value that is no limit of steps."""

    def __init__(self, value):
        self.value = value


class InvalidCount(ValueError):
    """A value that is no number of outcomes to take."""

    def __init__(self, value):
        self.value = value


class InvalidCode(ValueError):
    """A row by which rows are no code."""

    def __init__(self, index):
        self.index = index


class InvalidText(ValueError):
    """A letter at which a text goes wrong."""

    def __init__(self, index):
        self.index = index


class InvalidName(ValueError):
    """A value that is no free name where one must stand."""

    def __init__(self, value):
        self.value = value


class InvalidEntry(ValueError):
    """A name whose entry in a book is of the wrong kind."""

    def __init__(self, name):
        self.name = name


class InvalidDeed(ValueError):
    """An argument that is no deed of a house."""

    def __init__(self, index):
        self.index = index


class InvalidGuard(ValueError):
    """An argument that is no guard of a house."""

    def __init__(self, index):
        self.index = index


class NotChooser(ValueError):
    """A spot by which a filter is no chooser."""

    def __init__(self, spot):
        self.spot = spot


class NotFitting(ValueError):
    """A part that cannot stand at a spot."""

    def __init__(self, value):
        self.value = value


class Endless(ValueError):
    """A filter that calls itself, where a plain one is wanted."""

    def __init__(self, name):
        self.name = name


class TooGreat(ValueError):
    """A filter whose plain form would be too great."""

    def __init__(self, name):
        self.name = name


class Standing(ValueError):
    """A shape that comes back to itself without going into a part."""

    def __init__(self, name):
        self.name = name


class NoQuestion(ValueError):
    """A value that is no question at this place of a sketch."""

    def __init__(self, question):
        self.question = question


class NoPart(LookupError):
    """A value that leads to no part of a datum."""

    def __init__(self, place):
        self.place = place


class NoSpot(LookupError):
    """A value that is no spot of a term."""

    def __init__(self, spot):
        self.spot = spot


class NoWay(LookupError):
    """An entry that no choice of a run allows."""

    def __init__(self, index):
        self.index = index


class NotThere(LookupError):
    """A deed that does not fit the datum as it is."""

    def __init__(self, index):
        self.index = index


class NoName(LookupError):
    """A value under which nothing stands."""

    def __init__(self, value):
        self.value = value


class OutOfRange(LookupError):
    """A value that is no index or count in its range."""

    def __init__(self, value):
        self.value = value


class Unknown(LookupError):
    """A word that an entry of a book names and that is not known there."""

    def __init__(self, name, word):
        self.name = name
        self.word = word


class UnknownShape(LookupError):
    """A name of a shape that is not there."""

    def __init__(self, name):
        self.name = name


class Fails(RuntimeError):
    """A failing of a filter, with its datum."""

    def __init__(self, reason):
        self.reason = reason


class Failed(RuntimeError):
    """A deed of a house whose filter fails."""

    def __init__(self, index, reason):
        self.index = index
        self.reason = reason


class NoOutcome(RuntimeError):
    """A deed of a house whose filter gives no outcome."""

    def __init__(self, index):
        self.index = index


class TooLong(RuntimeError):
    """A deed of a house whose filter comes to its limit."""

    def __init__(self, index):
        self.index = index


class Broken(RuntimeError):
    """A guard of a house that does not hold."""

    def __init__(self, index):
        self.index = index

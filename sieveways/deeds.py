"""Deeds: what a change of a datum does, one thing after the other, done, taken back, and where parts are behind it."""

from sieveways.asking import MOST_STEPS
from sieveways.changes import (
    behind, deed_at, drop_at, inserted, new_part_of, part_to_change, places_to_drop,
)
from sieveways.choosers import chosen
from sieveways.data import alike, begins, copied, found_part, is_datum, places
from sieveways.driving import driven, started
from sieveways.errors import Fails, NoPart, NotThere
from sieveways.told import is_told_alike
from sieveways.words import is_integer, is_name

LENGTHS = {"put": 4, "drop": 3, "add": 3}


def deeds(term, datum):
    """All deeds that a filter that changes a datum does, in order."""
    found, failing = chosen(term[1], datum)
    if failing is not None:
        raise Fails(failing)
    done_deeds = []
    noted = []
    whole = copied(datum)
    for place in found:
        part = part_to_change(term, whole, place)
        told = driven(started(new_part_of(term), part, MOST_STEPS))
        if told[0] == "outcome":
            deed = deed_at(term, place, part, told[1])
            whole = behind(whole, deed)
            done_deeds.append(deed)
        elif told[0] != "done":
            raise Fails("limit" if told[0] == "limit" else told[1])
        elif term[0] in ("change", "drop"):
            noted.append(place)
    for place in places_to_drop(noted):
        deed = drop_at(whole, place)
        whole = behind(whole, deed)
        done_deeds.append(deed)
    return tuple([_with_new_data(deed) for deed in done_deeds])


def _with_new_data(deed):
    """The deed with data that share nothing with others."""
    return (*deed[:2], *[copied(part) for part in deed[2:]])


def done(datum, deeds):
    """The datum behind deeds."""
    whole = copied(datum)
    for index, deed in enumerate(deeds):
        whole = _behind_one(whole, deed, index)
    return copied(whole)


def _behind_one(whole, deed, index):
    """The datum behind one deed; raises NotThere for any value that is none, or does not fit."""
    if not _is_deed(deed) or not _fits(whole, deed):
        raise NotThere(index)
    try:
        return behind(whole, deed)
    except Fails:
        raise NotThere(index) from None


def _is_deed(value):
    """Whether any value has the form of a deed."""
    if not isinstance(value, tuple) or not value or not isinstance(value[0], str):
        return False
    if LENGTHS.get(value[0]) != len(value) or not isinstance(value[1], tuple):
        return False
    return all([is_datum(part) for part in value[2:]])


def _fits(whole, deed):
    """Whether a deed can be done with a datum as it is."""
    word, place = deed[:2]
    if word == "put":
        return _is_there(whole, place, deed[2])
    if not place:
        return False
    if word == "drop":
        return _is_there(whole, place, deed[2])
    around = _part_or_none(whole, place[:-1])
    step = place[-1]
    if isinstance(around, list):
        return is_integer(step) and step == len(around)
    return isinstance(around, dict) and is_name(step) and step not in around


def _part_or_none(whole, place):
    """The part at a place (any tuple), None also where there is none."""
    try:
        return found_part(whole, place)
    except NoPart:
        return None


def _is_there(whole, place, part):
    """Whether a part stands at a place (any tuple)."""
    try:
        return alike(found_part(whole, place), part)
    except NoPart:
        return False


def taken_back(datum, deeds):
    """The datum to which deeds led back, the last one first."""
    whole = copied(datum)
    for index, deed in reversed(list(enumerate(deeds))):
        if not _is_deed(deed) or not _fits_back(whole, deed):
            raise NotThere(index)
        word, place = deed[:2]
        try:
            if word == "drop":
                whole = inserted(whole, place, deed[2])
            elif word == "put":
                whole = behind(whole, ("put", place, deed[2]))
            else:
                whole = behind(whole, ("drop", place))
        except Fails:
            raise NotThere(index) from None
    return copied(whole)


def _fits_back(whole, deed):
    """Whether a deed can be taken back from a datum as it is."""
    word, place = deed[:2]
    if word == "put":
        return _is_there(whole, place, deed[3])
    if not place:
        return False
    if word == "add":
        return _is_there(whole, place, deed[2])
    around = _part_or_none(whole, place[:-1])
    step = place[-1]
    if isinstance(around, list):
        return is_integer(step) and 0 <= step <= len(around)
    return isinstance(around, dict) and is_name(step) and step not in around


def is_deeds(term, datum, value):
    """Whether any value is the tuple of all deeds that a filter does."""
    try:
        right = deeds(term, datum)
    except Fails:
        return False
    if not isinstance(value, tuple) or len(value) != len(right):
        return False
    return all([_is_same_deed(deed, told) for deed, told in zip(value, right)])


def _is_same_deed(value, right):
    """Whether any value is a deed."""
    if not _is_deed(value) or not is_told_alike(value[:2], right[:2]):
        return False
    return all([alike(part, told) for part, told in zip(value[2:], right[2:])])


def moved(datum, deeds):
    """Where the part at each place of a datum is behind deeds, None if it is gone or was exchanged."""
    found = list(places(datum))
    now = list(found)
    whole = copied(datum)
    for index, deed in enumerate(deeds):
        whole = _behind_one(whole, deed, index)
        if deed[0] != "add":
            now = [None if place is None else _moved_by(deed, place) for place in now]
    return tuple(list(zip(found, now)))


def _moved_by(deed, place):
    """Where a place is behind an exchange or a drop."""
    word, gone = deed[:2]
    if begins(gone, place):
        return None
    level = len(gone) - 1
    # Later elements of a list move down.
    if word == "drop" and len(place) > level and begins(gone[:-1], place) and is_integer(gone[-1]):
        if place[level] > gone[-1]:
            return place[:level] + (place[level] - 1,) + place[len(gone):]
    return place

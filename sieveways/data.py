"""Data: their sorts, parts and order, and the places at which parts stand."""

from sieveways.errors import NoPart
from sieveways.words import is_integer, is_name

GREATEST = 10 ** 30
MOST_LETTERS = 200
MOST_PARTS = 1000
MOST_LEVELS = 60
PERCENT_SIGN = 37
SORTS = ("null", "no", "yes", "number", "text", "list", "dict")


def is_leaf(value):
    """Whether any value is a datum that is no list and no dict."""
    if value is None or isinstance(value, bool):
        return True
    if isinstance(value, int):
        return -GREATEST <= value <= GREATEST
    return isinstance(value, str) and _is_text(value)


def _is_text(text):
    if len(text) > MOST_LETTERS:
        return False
    codes = [ord(letter) for letter in text]
    return all([32 <= code <= 126 and code != PERCENT_SIGN for code in codes])


def is_datum(value):
    """Whether any value is a datum."""
    return _is_bounded(value, True)


def is_small(datum):
    """Whether what is made of data is within the bounds of a datum."""
    return _is_bounded(datum, False)


def _is_bounded(value, may_be_any):
    """Whether a value has no more parts and levels than a datum; if it may be any, whether its parts are right, too."""
    waiting = [(value, 1)]
    many = 1
    while waiting:
        part, level = waiting.pop()
        if level > MOST_LEVELS or may_be_any and not _may_be_part(part):
            return False
        inner = inner_of(part)
        # A value may hold one list very often: it is given up before all of it is looked at.
        many += len(inner)
        if many > MOST_PARTS:
            return False
        waiting.extend([(below, level + 1) for below in inner])
    return True


def _may_be_part(value):
    """Whether a value can be a part of a datum, as far as can be told without its elements."""
    if isinstance(value, dict):
        return all([is_name(key) for key in value])
    return isinstance(value, list) or is_leaf(value)


def sort_of(datum):
    """The sort of a datum."""
    if datum is None:
        return "null"
    if isinstance(datum, bool):
        return "yes" if datum else "no"
    if isinstance(datum, int):
        return "number"
    if isinstance(datum, str):
        return "text"
    return "list" if isinstance(datum, list) else "dict"


def steps_into(datum):
    """The indexes or keys of the elements of a datum, in order."""
    if isinstance(datum, list):
        return list(range(len(datum)))
    return sorted(datum) if isinstance(datum, dict) else []


def inner_of(datum):
    """The elements of a datum, in order."""
    return [datum[step] for step in steps_into(datum)]


def parts_of(datum):
    """How many parts a datum has: itself and those of its elements."""
    return 1 + sum([parts_of(part) for part in inner_of(datum)])


def depth_of(datum):
    """How deep a datum is; a leaf, an empty list and an empty dict are 1 deep."""
    return 1 + max([depth_of(part) for part in inner_of(datum)], default=0)


def alike(one, other):
    """Whether two data are equal, sorts told apart."""
    sort = sort_of(one)
    if sort != sort_of(other):
        return False
    if sort not in ("list", "dict"):
        return one == other
    steps = steps_into(one)
    return steps == steps_into(other) and all([alike(one[step], other[step]) for step in steps])


def comes_before(one, other):
    """Whether a datum comes before another one in the order of data."""
    return order_key(one) < order_key(other)


def order_key(datum):
    """A tuple for each datum; these tuples are in the order in which their data are."""
    sort = sort_of(datum)
    place = SORTS.index(sort)
    if sort == "number":
        return 1, place, (2 * datum - 1 if datum > 0 else -2 * datum)
    if sort == "text":
        return 1, place, len(datum), datum
    inner = [order_key(part) for part in inner_of(datum)]
    many = 1 + sum([key[0] for key in inner])
    if sort == "dict":
        return many, place, tuple(zip(sorted(datum), inner))
    return many, place, tuple(inner)


def copied(datum):
    """A new datum equal to this one, keys ascending, so that the order in which they were put in is not seen."""
    if isinstance(datum, list):
        return [copied(part) for part in datum]
    if isinstance(datum, dict):
        return {key: copied(datum[key]) for key in sorted(datum)}
    return datum


def places(datum):
    """All places of a datum, a part ahead of its elements' parts."""
    waiting = [((), datum)]
    while waiting:
        place, part = waiting.pop()
        yield place
        for step in reversed(steps_into(part)):
            waiting.append((place + (step,), part[step]))


def part_at(datum, place):
    """The part of a datum at a place."""
    return copied(found_part(datum, place))


def with_part(datum, place, part):
    """The datum with another part at a place."""
    found_part(datum, place)
    if not place:
        return copied(part)
    whole = copied(datum)
    around = found_part(whole, place[:-1])
    around[place[-1]] = copied(part)
    return whole


def without(datum, place):
    """The datum in which the element at a place is gone."""
    found_part(datum, place)
    if not place:
        raise NoPart(place)
    whole = copied(datum)
    around = found_part(whole, place[:-1])
    del around[place[-1]]
    return whole


def found_part(datum, place):
    """The very part at a place, not a copy; any value may be asked for."""
    if not isinstance(place, tuple):
        raise NoPart(place)
    part = datum
    for step in place:
        if not has_step(part, step):
            raise NoPart(place)
        part = part[step]
    return part


def has_step(datum, step):
    """Whether any value is the index or the key of an element of a datum."""
    if isinstance(datum, list):
        return is_integer(step) and 0 <= step < len(datum)
    return isinstance(datum, dict) and isinstance(step, str) and step in datum


def begins(one, other):
    """Whether a place is a beginning of another one, or equal to it."""
    return other[:len(one)] == one

"""Filters and tests: which values are some, and which names in them are bound."""

from sieveways.data import SORTS, is_leaf
from sieveways.forms import FORMS, PART_KINDS, begins_kind, kinds_and_parts, narrowed
from sieveways.words import is_free_name, is_integer, is_name

MOST_SPOTS = 200
MOST_LEVELS = 40
MOST_INDEX = 99
MOST_HANDED = 3


def is_filter(value):
    """Whether any value is a filter."""
    return _is_of_kind(value, "filter")


def is_test(value):
    """Whether any value is a test."""
    return _is_of_kind(value, "test")


def is_walk(term):
    """Whether a filter is a walk."""
    return _is_of_kind(term, "walk")


def is_chooser(term):
    """Whether a filter is a chooser."""
    return _is_of_kind(term, "chooser")


def _is_of_kind(value, kind):
    waiting = [(value, kind, 1)]
    many = 1
    while waiting:
        term, wanted, level = waiting.pop()
        if level > MOST_LEVELS or not _has_form(term, wanted):
            return False
        inner = kinds_and_parts(term)
        # A value may hold one part very often: it is given up before all of it is looked at.
        many += len(inner)
        if many > MOST_SPOTS:
            return False
        waiting.extend([(part, narrowed(wanted, told), level + 1) for told, part in inner])
    return True


def _has_form(value, kind):
    """Whether any value has a form of this kind, as far as can be told without its parts."""
    if not isinstance(value, tuple) or not value or not isinstance(value[0], str):
        return False
    if not begins_kind(value[0], kind):
        return False
    fields = FORMS[value[0]]
    if len(value) != len(fields) + 1:
        return False
    return all([_is_field(field, told) for told, field in zip(fields, value[1:])])


def _is_field(value, told):
    """Whether any value can stand where the table of forms tells this word; parts are looked at later."""
    if told in PART_KINDS:
        return True
    if told == "key":
        return is_name(value)
    if told == "free":
        return is_free_name(value)
    if told == "index":
        return is_index(value)
    if told == "leaf":
        return is_leaf(value)
    if told == "sort":
        return value in SORTS
    if not isinstance(value, tuple):
        return False
    if told == "filters":
        return len(value) <= MOST_HANDED
    if told == "parameters":
        return len(value) <= MOST_HANDED and all([is_free_name(name) for name in value]) and _are_unlike(value)
    return _are_entries(value)


def is_index(value):
    """Whether any value can be the index of an item."""
    return is_integer(value) and 0 <= value <= MOST_INDEX


def _are_entries(values):
    if not all([isinstance(entry, tuple) and len(entry) == 2 and is_name(entry[0]) for entry in values]):
        return False
    return _are_unlike([key for key, _ in values])


def _are_unlike(names):
    return len(set(names)) == len(names)


def is_closed(term):
    """Whether each name and each call in a filter is bound in it."""
    return first_unbound(term, {}) is None


def first_unbound(term, known):
    """The first name in reading order that is not bound, None if all are; calls of known filters without others are."""
    for _, part, names, calls in _scoped_parts(term):
        if part[0] == "name" and part[1] not in names:
            return part[1]
        if part[0] == "call" and not _may_be_called(part, calls, known):
            return part[1]
    return None


def _may_be_called(call, calls, known):
    _, name, handed = call
    return calls[name] == len(handed) if name in calls else name in known and not handed


def outer_calls(term):
    """The spots of all calls that are not bound in a filter, in reading order, each with its name."""
    called = [(spot, part[1], calls) for spot, part, _, calls in _scoped_parts(term) if part[0] == "call"]
    return [(spot, name) for spot, name, calls in called if name not in calls]


def _scoped_parts(term):
    """All parts in reading order, each behind its spot, with the names and the calls that are bound there.

    Of a call is told how many filters it takes.
    """
    waiting = [((), term, {}, {})]
    found = []
    while waiting:
        row = waiting.pop()
        found.append(row)
        waiting.extend(list(reversed(_inner_scopes(*row))))
    return found


def _inner_scopes(spot, term, names, calls):
    """The parts of a term, each with the names and calls bound there."""
    parts = [part for _, part in kinds_and_parts(term)]
    scopes = [(names, calls)] * len(parts)
    if term[0] in ("as", "reduce"):
        scopes[-1] = ({**names, term[2]: True}, calls)
    if term[0] == "def":
        outer = {**calls, term[1]: len(term[2])}
        inner = dict(outer)
        for name in term[2]:
            inner[name] = 0
        scopes = [(names, inner), (names, outer)]
    return [(spot + (number,), part, *scope) for number, (part, scope) in enumerate(zip(parts, scopes))]

"""Tests and choosers on data: whether a test holds, and which places a chooser gives."""

from sieveways.data import alike, has_step, sort_of, steps_into
from sieveways.errors import Fails, NotChooser
from sieveways.forms import begins_kind, kinds_and_parts


def holds(test, datum):
    """Whether a test holds for a datum."""
    word = test[0]
    if word == "is":
        return sort_of(datum) == test[1]
    if word == "equal":
        return alike(datum, test[1])
    if word == "and":
        return holds(test[1], datum) and holds(test[2], datum)
    if word == "or":
        return holds(test[1], datum) or holds(test[2], datum)
    if word == "not":
        return not holds(test[1], datum)
    return any([holds(test[2], part) for _, part in _tried(test[1], (), datum)])


def chosen(term, datum):
    """The places of a chooser on a datum, and the datum of its failing, None if it ends."""
    demand_chooser(term)
    found = []
    try:
        for place, _ in _reached(term, (), datum):
            found.append(place)
    except Fails as failing:
        return tuple(found), failing.reason
    return tuple(found), None


def demand_chooser(term):
    """Raises NotChooser for a filter that is no chooser."""
    waiting = [((), term)]
    while waiting:
        spot, part = waiting.pop()
        if not begins_kind(part[0], "chooser"):
            raise NotChooser(spot)
        inner = list(enumerate(kinds_and_parts(part)))
        # The last one waits longest, so spots are met in reading order. What stands in a test is a walk.
        for number, (kind, below) in reversed(inner):
            if kind != "test":
                waiting.append((spot + (number,), below))


def _reached(term, place, part):
    """The places to which a chooser leads from a part at a place, with the parts there; raises Fails.

    It is told lazily: what stands behind a failing may be far too much to look at.
    """
    word = term[0]
    if word == "pipe":
        _, first, second = term
        for between, found in _reached(first, place, part):
            yield from _reached(second, between, found)
    elif word == "both":
        _, first, second = term
        yield from _reached(first, place, part)
        yield from _reached(second, place, part)
    elif word == "if":
        _, test, first, second = term
        taken = first if holds(test, part) else second
        yield from _reached(taken, place, part)
    elif word == "try":
        yield from _tried(term[1], place, part)
    elif word == "other":
        _, walk, second = term
        ends = list(_reached(walk, place, part))
        yield from ends
        if not ends:
            yield from _reached(second, place, part)
    else:
        yield from _stepped(term, place, part)


def _stepped(term, place, part):
    """The places, with the parts there, to which a chooser without parts leads, as a list; raises Fails."""
    word = term[0]
    if word == "same":
        return [(place, part)]
    if word == "none":
        return []
    if word == "every" and isinstance(part, (list, dict)):
        steps = steps_into(part)
    elif word in ("field", "item") and has_step(part, term[1]):
        steps = [term[1]]
    else:
        raise Fails(word)
    return [(place + (step,), part[step]) for step in steps]


def _tried(walk, place, part):
    """The one place to which a walk leads, with its part, in a list; none if it gives none or fails."""
    try:
        return list(_reached(walk, place, part))
    except Fails:
        return []

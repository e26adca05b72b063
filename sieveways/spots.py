"""The spots of a filter: where its parts stand, and what comes of it with another part there."""

from sieveways.errors import NoSpot
from sieveways.forms import kinds_and_parts, with_parts
from sieveways.words import is_integer


def spots(term):
    """All spots of a filter or test, in reading order."""
    waiting = [((), term)]
    while waiting:
        spot, part = waiting.pop()
        yield spot
        # The last one waits longest, so spots are met in reading order.
        for number, (_, below) in reversed(list(enumerate(kinds_and_parts(part)))):
            waiting.append((spot + (number,), below))


def part_at_spot(term, spot):
    """The filter or test at a spot."""
    return _passed(term, spot)[-1]


def with_spot(term, spot, part):
    """The filter or test with another part at a spot."""
    around = _passed(term, spot)[:-1]
    whole = part
    for outer, number in reversed(list(zip(around, spot))):
        parts = [below for _, below in kinds_and_parts(outer)]
        parts[number] = whole
        whole = with_parts(outer, parts)
    return whole


def _passed(term, spot):
    """All parts on the way to a spot, the whole first; any value may be asked for."""
    if not isinstance(spot, tuple):
        raise NoSpot(spot)
    passed = [term]
    for number in spot:
        inner = kinds_and_parts(passed[-1])
        if not is_integer(number) or not 0 <= number < len(inner):
            raise NoSpot(spot)
        passed.append(inner[number][1])
    return passed

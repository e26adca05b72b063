"""What runs of filters and of codes share: what they may be handed, and how outcomes are taken from them."""

from sieveways.data import is_datum
from sieveways.errors import InvalidCount, InvalidDatum, InvalidLimit
from sieveways.words import is_integer

MOST_STEPS = 2000


def demand_datum_and_limit(datum, limit):
    """Raises InvalidDatum, then InvalidLimit, for any values that are none."""
    if not is_datum(datum):
        raise InvalidDatum(datum)
    if not _is_count(limit):
        raise InvalidLimit(limit)


def taken(run, number):
    """The data of the next outcomes of a run, so many or all that there are; the number may be any value."""
    if not _is_count(number):
        raise InvalidCount(number)
    found = []
    while len(found) < number:
        told = run.ask()
        if told[0] != "outcome":
            break
        found.append(told[1])
    return found


def _is_count(value):
    """Whether any value is an integer from 0 to the most steps."""
    return is_integer(value) and 0 <= value <= MOST_STEPS

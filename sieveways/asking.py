"""What runs of filters and of codes share: what they may be handed, and how they are asked for outcomes."""

from sieveways.data import copied, is_datum
from sieveways.engine import open_choices, path_numbers
from sieveways.errors import InvalidCount, InvalidDatum, InvalidLimit
from sieveways.words import is_integer

MOST_STEPS = 2000


class Asked:
    """A run as far as it has been asked: its state, what drives this on, how many outcomes came, what was told last."""

    def __init__(self, state, driver):
        self.state = state
        self.driver = driver
        self.many = 0
        self.last = None

    def is_at_outcome(self):
        """Whether an outcome was told last."""
        return self.last is not None and self.last[0] == "outcome"

    def next_told(self):
        """The next outcome, or the ending, the same again once it has been told."""
        if self.last is None or self.is_at_outcome():
            driver = self.driver
            self.last = driver(self.state)
        if not self.is_at_outcome():
            return self.last
        self.many += 1
        return "outcome", copied(self.last[1])

    def next_data(self, number):
        """The data of the next outcomes, so many or all that there are; the number may be any value."""
        if not _is_count(number):
            raise InvalidCount(number)
        found = []
        while len(found) < number:
            told = self.next_told()
            if told[0] != "outcome":
                break
            found.append(told[1])
        return found

    def way_told(self):
        """The choices that led to the last outcome; None ahead of the first one and behind the ending."""
        return path_numbers(self.state.path) if self.is_at_outcome() else None

    def many_held(self):
        """How many choices of this way are open."""
        return open_choices(self.state.path) if self.is_at_outcome() else 0

    def twin(self):
        """The same, to be asked by itself."""
        other = Asked(self.state.twin(), self.driver)
        other.many = self.many
        other.last = self.last
        return other


def demand_datum_and_limit(datum, limit):
    """Raises InvalidDatum, then InvalidLimit, for any values that are none."""
    if not is_datum(datum):
        raise InvalidDatum(datum)
    if not _is_count(limit):
        raise InvalidLimit(limit)


def _is_count(value):
    """Whether any value is an integer from 0 to the most steps."""
    return is_integer(value) and 0 <= value <= MOST_STEPS

"""Machines: codes run on data, outcome by outcome."""

from sieveways.asking import demand_datum_and_limit, taken
from sieveways.data import copied
from sieveways.engine import open_choices, path_numbers
from sieveways.working import Work, worked


class Machine:
    """A run of a code on a datum, outcome by outcome."""

    def __init__(self, code, datum, *, limit=1000):
        demand_datum_and_limit(datum, limit)
        self._code = code
        self._work = Work(code.rows, copied(datum), limit)
        self._given = 0
        self._is_at_outcome = False
        self._last = None

    def ask(self):
        """The next outcome, or the ending."""
        if self._last is not None:
            return self._last
        told = worked(self._work)
        self._is_at_outcome = told[0] == "outcome"
        if self._is_at_outcome:
            self._given += 1
            return "outcome", copied(told[1])
        self._last = told
        return told

    def take(self, number):
        """The data of the next outcomes, so many or all that there are."""
        return taken(self, number)

    def rest(self):
        """The data of all further outcomes, each asked for when it is wanted."""
        told = self.ask()
        while told[0] == "outcome":
            yield told[1]
            told = self.ask()

    def copy(self):
        """A machine that goes on alike."""
        other = Machine(self._code, None, limit=0)
        other._work = self._work.twin()
        other._given = self._given
        other._is_at_outcome = self._is_at_outcome
        other._last = self._last
        return other

    def __len__(self):
        return len(range(self._given))

    @property
    def events(self):
        """The steps done, in order."""
        return tuple(self._work.noted)

    @property
    def way(self):
        """The choices that led to the last outcome; None ahead of the first one and behind the ending."""
        return path_numbers(self._work.path) if self._is_at_outcome else None

    @property
    def held(self):
        """How many choices of the way of the last outcome are open."""
        return open_choices(self._work.path) if self._is_at_outcome else 0

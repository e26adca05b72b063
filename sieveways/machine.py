"""Machines: codes run on data, outcome by outcome."""

from sieveways.asking import Asked, demand_datum_and_limit
from sieveways.data import copied
from sieveways.working import Work, worked


class Machine:
    """A run of a code on a datum, outcome by outcome."""

    def __init__(self, code, datum, *, limit=1000):
        demand_datum_and_limit(datum, limit)
        self._code = code
        self._asked = Asked(Work(code.rows, copied(datum), limit), worked)

    def ask(self):
        """The next outcome, or the ending."""
        return self._asked.next_told()

    def take(self, number):
        """The data of the next outcomes, so many or all that there are."""
        return self._asked.next_data(number)

    def rest(self):
        """The data of all further outcomes, each asked for when it is wanted."""
        told = self.ask()
        while told[0] == "outcome":
            yield told[1]
            told = self.ask()

    def copy(self):
        """A machine that goes on alike."""
        other = Machine(self._code, None, limit=0)
        other._asked = self._asked.twin()
        return other

    def __len__(self):
        return len(range(self._asked.many))

    @property
    def events(self):
        """The steps done, in order."""
        return tuple(self._asked.state.noted)

    @property
    def way(self):
        """The choices that led to the last outcome; None ahead of the first one and behind the ending."""
        return self._asked.way_told()

    @property
    def held(self):
        """How many choices of the way of the last outcome are open."""
        return self._asked.many_held()

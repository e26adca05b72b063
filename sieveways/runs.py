"""Runs of filters: told whole, or outcome by outcome."""

from sieveways.asking import MOST_STEPS, Asked, demand_datum_and_limit
from sieveways.data import alike, copied
from sieveways.driving import driven, guided, started
from sieveways.errors import InvalidFilter, NoWay
from sieveways.filters import is_closed, is_filter
from sieveways.told import is_told_alike
from sieveways.words import is_integer


class Telling:
    """A whole run."""

    def __init__(self, outcomes, ending, failure, events):
        self._outcomes = outcomes
        self._ending = ending
        self._failure = failure
        self._events = events

    @property
    def outcomes(self):
        """The data of all outcomes."""
        return tuple([copied(datum) for datum in self._outcomes])

    @property
    def ending(self):
        """How the run ended: "done", "failing" or "limit"."""
        return self._ending

    @property
    def failure(self):
        """The datum of the failing, None if there is none."""
        return self._failure

    @property
    def events(self):
        """All steps, in order."""
        return self._events

    def __eq__(self, other):
        if not isinstance(other, Telling) or not alike(list(self._outcomes), list(other._outcomes)):
            return False
        return is_told_alike(_ended(self), _ended(other))


def _ended(telling):
    """How a whole run ended, and its steps."""
    return telling.ending, telling.failure, telling.events


def tell(term, datum, *, limit=1000):
    """The whole run of a filter on a datum."""
    demand_run(term, datum, limit)
    return _told_to_its_end(started(term, copied(datum), limit))


def tell_called(filters, name, datum, limit):
    """The whole run of a call of one of the filters of a book, in which each of them can be called."""
    demand_datum_and_limit(datum, limit)
    return _told_to_its_end(started(("call", name, ()), copied(datum), limit, ("book", None, filters, None)))


def _told_to_its_end(engine):
    outcomes = []
    told = driven(engine)
    while told[0] == "outcome":
        outcomes.append(copied(told[1]))
        told = driven(engine)
    return Telling(tuple(outcomes), told[0], told[1] if len(told) > 1 else None, tuple(engine.noted))


class Run:
    """A run of a filter on a datum, outcome by outcome."""

    def __init__(self, term, datum, *, limit=1000):
        demand_run(term, datum, limit)
        self._term = term
        self._datum = copied(datum)
        self._limit = limit
        self._asked = Asked(started(term, self._datum, limit), driven)

    @classmethod
    def from_way(cls, term, datum, way, *, limit=1000):
        """The run that goes on behind the outcome to which a way leads."""
        run = cls(term, datum, limit=limit)
        run.go_behind(way)
        return run

    def go_behind(self, way):
        """Lets this run, of which nothing has been asked, go on behind the outcome to which a way leads."""
        demand_way(way)
        engine = guided(self._term, self._datum, MOST_STEPS, way)
        if driven(engine)[0] != "outcome":
            raise NoWay(len(way))
        engine.noted = []
        engine.limit = self._limit
        self._asked = Asked(engine, driven)

    def ask(self):
        """The next outcome, or the ending."""
        return self._asked.next_told()

    def take(self, number):
        """The data of the next outcomes, so many or all that there are."""
        return self._asked.next_data(number)

    def rest(self):
        """The data of all further outcomes, each asked for when it is wanted."""
        told = self.ask()
        while told[0] == "outcome":
            yield told[1]
            told = self.ask()

    def copy(self):
        """A run that goes on alike."""
        other = Run(self._term, self._datum, limit=self._limit)
        other._asked = self._asked.twin()
        return other

    def __len__(self):
        return len(range(self._asked.many))

    @property
    def events(self):
        """The steps done, in order."""
        return tuple(self._asked.state.noted)

    @property
    def way(self):
        """The choices that led to the last outcome; None ahead of the first one and behind the ending."""
        return self._asked.way_told()

    @property
    def held(self):
        """How many choices of the way of the last outcome are open."""
        return self._asked.many_held()


def demand_run(term, datum, limit):
    """Raises the errors of a run for any values that are no closed filter, no datum, no limit."""
    if not is_filter(term) or not is_closed(term):
        raise InvalidFilter(term)
    demand_datum_and_limit(datum, limit)


def demand_way(value):
    """Raises NoWay for any value that is not a tuple of integers from 0 on."""
    if not isinstance(value, tuple) or not all([is_integer(entry) and entry >= 0 for entry in value]):
        raise NoWay(0)

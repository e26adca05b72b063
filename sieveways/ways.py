"""Ways of runs: the choices that led to each outcome, and what a way leads to."""

from sieveways.asking import MOST_STEPS
from sieveways.data import alike, copied, is_datum
from sieveways.driving import driven, guided
from sieveways.errors import NoWay
from sieveways.runs import Run, demand_run, demand_way


def ways(term, datum, *, limit=1000):
    """The outcomes of a run, each behind its way, up to the ending."""
    run = Run(term, datum, limit=limit)
    told = run.ask()
    while told[0] == "outcome":
        yield run.way, told[1]
        told = run.ask()


def led(term, datum, way, *, limit=1000):
    """What a way leads to, without looking at the choices ahead of it."""
    demand_run(term, datum, limit)
    demand_way(way)
    told = driven(guided(term, copied(datum), limit, way))
    return ("outcome", copied(told[1])) if told[0] == "outcome" else told


def is_way(term, datum, way, outcome):
    """Whether any value is a way that leads to this outcome within as many steps as a run may do."""
    try:
        told = led(term, datum, way, limit=MOST_STEPS)
    except NoWay:
        return False
    return told[0] == "outcome" and is_datum(outcome) and alike(told[1], outcome)

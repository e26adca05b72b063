"""Runs driven on: from one outcome to the next one, or to the ending."""

from sieveways.arrivals import hand_on, meet_failing
from sieveways.beginnings import begin_term
from sieveways.changes import demand_small
from sieveways.engine import BACK, BEGIN, FAIL, GIVE, Engine, StepsDone
from sieveways.errors import Fails
from sieveways.putting import begin_side, give_element, give_made, put_next, put_nothing


def started(term, datum, limit, env=None):
    """The state of a run that has done nothing yet."""
    engine = Engine(limit)
    engine.begin(term, datum, (), env)
    return engine


def guided(term, datum, limit, way):
    """The state of a run that goes a way first."""
    engine = started(term, datum, limit)
    engine.guide = way
    engine.is_led = True
    return engine


def driven(engine):
    """Drives a run on: ("outcome", datum), ("done",), ("failing", datum) or ("limit",); ("none",) on a way.

    Raises NoWay if the run goes a way that is none. Behind what the way leads to it goes on without it.
    """
    told = None
    while told is None:
        try:
            told = _driven_once(engine)
        except Fails as failing:
            engine.fail(failing.reason)
        except StepsDone:
            return ("limit",)
    engine.demand_used()
    engine.guide = None
    return told


def _driven_once(engine):
    """Does one thing; what it leads to outside, None if it goes on."""
    if engine.task == BEGIN:
        begin_term(engine)
    elif engine.task == GIVE:
        if engine.frames is None:
            engine.back()
            return "outcome", engine.datum
        hand_on(engine)
    elif engine.task == FAIL:
        if not meet_failing(engine):
            return "failing", engine.datum
    elif engine.task == BACK:
        return _gone_back(engine)
    return None


def _gone_back(engine):
    # What was chosen by an entry is not chosen again; walks end without an outcome where they stand.
    if engine.is_guided() and (engine.choices is None or engine.choices[0] not in ("try", "other")):
        return ("none",)
    if engine.choices is None:
        return ("done",)
    word, told = engine.last_choice()
    action = RETURNS[word]
    action(engine, told)
    return None


def _every(engine, told):
    steps, number, datum, place = told
    give_element(engine, steps, number, datum, place)


def _both(engine, told):
    sides, datum, place, env = told
    begin_side(engine, 1, sides, datum, place, env)


def _try(engine, _):
    engine.note(("branch", 1))
    engine.back()


def _other(engine, told):
    further, datum, place, env = told
    engine.note(("branch", 1))
    engine.begin(further, datum, place, env)


def _list(engine, cell):
    new = list(engine.cells[cell])
    demand_small(new)
    give_made(engine, new)


def _seed(engine, told):
    cell, term, datum, env = told
    _demand_one(engine, cell)
    total = engine.new_cell(engine.cells[cell][0])
    engine.choice("total", total)
    engine.frame("fold", (total, term, env))
    engine.is_led = False
    engine.begin(term[1], datum, (), env)


def _folded(engine, told):
    total, cell = told
    _demand_one(engine, cell)
    engine.cells[total] = engine.cells[cell][0]
    engine.back()


def _demand_one(engine, cell):
    if not engine.cells[cell]:
        raise Fails("one")


def _total(engine, total):
    engine.give(engine.cells[total])


def _pass(engine, _):
    engine.back()


def _beyond(engine, index):
    # The filter ended ahead of what the way tells.
    if engine.guide is not None:
        engine.refuse_at(index)
    engine.back()


def _fails(engine, _):
    give_made(engine, False)


def _change(engine, told):
    term, datum, env, cell = told
    put_next(engine, (term, env), engine.cells[cell], datum, ())


def _unput(engine, told):
    put_nothing(engine, told)


RETURNS = {
    "every": _every, "both": _both, "try": _try, "other": _other, "list": _list, "seed": _seed, "folded": _folded,
    "total": _total, "pass": _pass, "beyond": _beyond, "fails": _fails, "change": _change, "unput": _unput,
}

"""What frames do with an outcome, and those that meet failings with a failing."""

from sieveways.changes import demand_small
from sieveways.errors import Fails
from sieveways.putting import give_made, put_outcome
from sieveways.reckoning import reckoned


def hand_on(engine):
    """Hands the outcome that is due to the next frame."""
    word, told, engine.frames = engine.frames
    action = ARRIVALS[word]
    action(engine, told, engine.datum, engine.place)


def _pipe(engine, told, datum, place):
    further, env = told
    engine.begin(further, datum, place, env)


def _walked(engine, mark, datum, place):
    """A walk in a try or other gives one outcome at most: what stands behind it is given up."""
    engine.reset(mark)
    engine.note(("branch", 0))
    engine.give(datum, place)


def _gather(engine, cell, datum, _):
    engine.cells[cell] += (datum,)
    engine.back()


def _dict(engine, told, datum, _):
    entries, found, whole, env = told
    found = found + (datum,)
    if len(found) < len(entries):
        engine.frame("dict", (entries, found, whole, env))
        engine.begin(entries[len(found)][1], whole, (), env)
        return
    new = {key: part for (key, _), part in zip(entries, found)}
    demand_small(new)
    give_made(engine, new)


def _left(engine, told, datum, _):
    word, further, whole, env = told
    engine.frame("right", (word, datum))
    engine.begin(further, whole, (), env)


def _right(engine, told, datum, _):
    word, first = told
    give_made(engine, reckoned(word, first, datum))


def _as(engine, told, datum, _):
    term, whole, env = told
    engine.note(("bind", term[2]))
    engine.begin(term[3], whole, (), ("value", term[2], datum, env))


def _when(engine, told, datum, _):
    term, whole, env = told
    number = 0 if datum is True else 1
    engine.note(("branch", number))
    engine.begin(term[2 + number], whole, (), env)


def _catch(engine, told, datum, _):
    _, _, cell, mark, chosen = told
    number = _count(engine, cell)
    if _is_ahead(engine, chosen, number):
        engine.back()
        return
    _, engine.path, engine.is_led = mark
    engine.chose(0, True)
    engine.chose(number, False)
    engine.give(datum)


def _take(engine, told, datum, _):
    many, cell, mark, chosen = told
    number = _count(engine, cell)
    if _is_ahead(engine, chosen, number):
        engine.back()
        return
    choices, engine.path, engine.is_led = mark
    is_open = number < many - 1
    if not is_open:
        engine.choices = choices
    engine.chose(number, is_open)
    engine.give(datum)


def _count(engine, cell):
    """The number of an outcome that comes now."""
    number = engine.cells[cell]
    engine.cells[cell] = number + 1
    return number


def _is_ahead(engine, chosen, number):
    """Whether an outcome comes ahead of the one to which the way leads."""
    return engine.guide is not None and chosen is not None and (chosen[0] is None or number < chosen[0])


def _first(engine, mark, datum, _):
    engine.reset(mark)
    engine.give(datum)


def _fails(engine, _, _datum, _place):
    engine.back()


def _once(engine, cell, datum, _):
    if engine.cells[cell]:
        raise Fails("one")
    engine.cells[cell] = (datum,)
    engine.back()


def _fold(engine, told, datum, _):
    total, term, env = told
    engine.note(("bind", term[2]))
    cell = engine.new_cell(())
    engine.choice("folded", (total, cell))
    engine.frame("once", cell)
    engine.begin(term[4], engine.cells[total], (), ("value", term[2], datum, env))


def _places(engine, _, _datum, place):
    give_made(engine, list(place))


def _found(engine, cell, _, place):
    engine.cells[cell] += (place,)
    engine.back()


def _put(engine, told, datum, _):
    change, part, mark = told
    engine.reset(mark)
    put_outcome(engine, change, part, datum)


ARRIVALS = {
    "pipe": _pipe, "try": _walked, "other": _walked, "gather": _gather, "dict": _dict, "left": _left, "right": _right,
    "as": _as, "when": _when, "catch": _catch, "take": _take, "first": _first, "fails": _fails, "once": _once,
    "fold": _fold, "places": _places, "found": _found, "put": _put,
}


def meet_failing(engine):
    """Looks for the frame that meets the failing that is due; False if there is none."""
    reason = engine.datum
    while engine.frames is not None:
        word, told, engine.frames = engine.frames
        if word == "take":
            _refuse_too_early(engine, told[1], told[3])
        if word in ("try", "fails", "catch"):
            action = MEETINGS[word]
            action(engine, told, reason)
            return True
    return False


def _refuse_too_early(engine, cell, chosen):
    """The filter of a take may fail right behind the outcomes ahead of the one that the way tells, not earlier."""
    if engine.guide is not None and chosen is not None and engine.cells[cell] < chosen[0]:
        engine.refuse_at(chosen[1])


def _meet_in_try(engine, mark, _):
    engine.reset(mark)
    engine.note(("branch", 1))
    engine.back()


def _meet_in_fails(engine, mark, _):
    engine.reset(mark)
    give_made(engine, True)


def _meet_in_catch(engine, told, reason):
    further, env, _, mark, chosen = told
    if engine.guide is not None and chosen is not None and chosen[0] is not None:
        engine.refuse_at(chosen[1])
    engine.reset(mark)
    engine.note(("branch", 1))
    engine.chose(1, False)
    engine.begin(further, reason, (), env)


MEETINGS = {"try": _meet_in_try, "fails": _meet_in_fails, "catch": _meet_in_catch}

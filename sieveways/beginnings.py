"""How the run of each form of filter begins."""

from sieveways.choosers import holds
from sieveways.data import has_step, steps_into
from sieveways.errors import Fails
from sieveways.putting import begin_side, give_element, give_made


def begin_term(engine):
    """Begins the filter that is due."""
    term = engine.term
    action = BEGINNINGS[term[0]]
    action(engine, term, engine.datum, engine.place, engine.env)


def _same(engine, _, datum, place, _env):
    engine.give(datum, place)


def _step(engine, term, datum, place, _env):
    engine.note(term)
    if not has_step(datum, term[1]) or isinstance(datum, dict) != (term[0] == "field"):
        raise Fails(term[0])
    engine.give(datum[term[1]], place + (term[1],))


def _every(engine, _, datum, place, _env):
    if not isinstance(datum, (list, dict)):
        raise Fails("every")
    steps = steps_into(datum)
    number = engine.entry() if engine.is_guided() else 0
    if engine.is_guided() and number >= len(steps):
        engine.refuse()
    give_element(engine, steps, number, datum, place)


def _none(engine, _, _datum, _place, _env):
    engine.back()


def _fail(_engine, _, _datum, _place, _env):
    raise Fails("fail")


def _pipe(engine, term, datum, place, env):
    engine.frame("pipe", (term[2], env))
    engine.begin(term[1], datum, place, env)


def _both(engine, term, datum, place, env):
    number = engine.entry() if engine.is_guided() else 0
    if number > 1:
        engine.refuse()
    begin_side(engine, number, term[1:], datum, place, env)


def _if(engine, term, datum, place, env):
    number = 0 if holds(term[1], datum) else 1
    engine.note(("branch", number))
    engine.begin(term[2 + number], datum, place, env)


def _try(engine, term, datum, place, env):
    mark = engine.mark()
    engine.choice("try", None)
    engine.frame("try", mark)
    engine.begin(term[1], datum, place, env)


def _other(engine, term, datum, place, env):
    mark = engine.mark()
    engine.choice("other", (term[2], datum, place, env))
    engine.frame("other", mark)
    engine.begin(term[1], datum, place, env)


def _leaf(engine, term, _datum, _place, _env):
    engine.give(term[1])


def _list(engine, term, datum, _place, env):
    cell = engine.new_cell(())
    engine.choice("list", cell)
    engine.frame("gather", cell)
    engine.is_led = False
    engine.begin(term[1], datum, (), env)


def _dict(engine, term, datum, _place, env):
    entries = term[1]
    if not entries:
        give_made(engine, {})
        return
    engine.frame("dict", (entries, (), datum, env))
    engine.begin(entries[0][1], datum, (), env)


def _pair(engine, term, datum, _place, env):
    engine.frame("left", (term[0], term[2], datum, env))
    engine.begin(term[1], datum, (), env)


def _as(engine, term, datum, _place, env):
    engine.frame("as", (term, datum, env))
    engine.begin(term[1], datum, (), env)


def _name(engine, term, _datum, _place, env):
    while env[0] != "value" or env[1] != term[1]:
        env = env[3]
    engine.give(env[2])


def _when(engine, term, datum, _place, env):
    engine.frame("when", (term, datum, env))
    engine.begin(term[1], datum, (), env)


def _counted(engine, told):
    """Begins to count the outcomes of a filter; if the number of one is told, ends ahead of it are no way."""
    if told is not None:
        engine.choice("beyond", told[1])
    engine.is_led = False
    return engine.new_cell(0)


def _take(engine, term, datum, _place, env):
    many = term[1]
    told = None
    if engine.is_guided():
        number = engine.entry()
        if number >= many:
            engine.refuse()
        told = (number, engine.used - 1)
    if many == 0:
        engine.back()
        return
    mark = engine.mark()
    engine.frame("take", (many, _counted(engine, told), mark, told))
    engine.begin(term[2], datum, (), env)


def _catch(engine, term, datum, _place, env):
    told = None
    if engine.is_guided():
        side = engine.entry()
        if side > 1:
            engine.refuse()
        # Outcomes ahead of the failing are passed over as those ahead of a number that does not come.
        told = (engine.entry(), engine.used - 1) if side == 0 else (None, engine.used - 1)
    mark = engine.mark()
    engine.frame("catch", (term[2], env, _counted(engine, told), mark, told))
    engine.begin(term[1], datum, (), env)


def _reduce(engine, term, datum, _place, env):
    cell = engine.new_cell(())
    engine.choice("seed", (cell, term, datum, env))
    engine.frame("once", cell)
    engine.is_led = False
    engine.begin(term[3], datum, (), env)


def _first(engine, term, datum, _place, env):
    _begin_free(engine, "pass", "first", (term[1], datum, env))


def _fails(engine, term, datum, _place, env):
    _begin_free(engine, "fails", "fails", (term[1], datum, env))


def _begin_free(engine, choice, frame, told):
    """Begins a filter of which at most one outcome goes on, so that what it chooses is not told by a way."""
    term, datum, env = told
    mark = engine.mark()
    engine.choice(choice, None)
    engine.frame(frame, mark)
    engine.is_led = False
    engine.begin(term, datum, (), env)


def _def(engine, term, datum, _place, env):
    engine.begin(term[4], datum, (), ("def", term[1], (term[2], term[3]), env))


def _call(engine, term, datum, _place, env):
    engine.note(("call", term[1]))
    found = env
    while found[0] != "book" and (found[0] == "value" or found[1] != term[1]):
        found = found[3]
    if found[0] == "book":
        # Filters of a book are all known to one another, and nothing else is known to them.
        engine.begin(found[2][term[1]], datum, (), found)
        return
    if found[0] == "handed":
        body, outer = found[2]
        engine.begin(body, datum, (), outer)
        return
    names, body = found[2]
    # The def itself is bound in its filter, and the names in its parentheses hide an equal one.
    inner = found
    for name, handed in zip(names, term[2]):
        inner = ("handed", name, (handed, env), inner)
    engine.begin(body, datum, (), inner)


def _places(engine, term, datum, _place, env):
    engine.frame("places", None)
    engine.begin(term[1], datum, (), env)


def _change(engine, term, datum, _place, env):
    cell = engine.new_cell(())
    engine.choice("change", (term, datum, env, cell))
    engine.frame("found", cell)
    engine.is_led = False
    engine.begin(term[1], datum, (), env)


BEGINNINGS = {
    "same": _same, "field": _step, "item": _step, "every": _every, "none": _none, "fail": _fail, "pipe": _pipe,
    "both": _both, "if": _if, "try": _try, "other": _other, "leaf": _leaf, "list": _list, "dict": _dict, "sum": _pair,
    "less": _pair, "product": _pair, "alike": _pair, "before": _pair, "as": _as, "name": _name, "when": _when,
    "catch": _catch, "reduce": _reduce, "first": _first, "take": _take, "fails": _fails, "def": _def, "call": _call,
    "places": _places, "change": _change, "drop": _change, "add": _change, "append": _change,
}

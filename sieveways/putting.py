"""What several steps of a run do: elements of an every, data that are made, and changes of a datum place by place."""

from sieveways.changes import behind, deed_at, drop_at, new_part_of, part_to_change, places_to_drop
from sieveways.data import sort_of


def give_made(engine, datum):
    """Gives a datum that a filter made."""
    engine.note(("made", sort_of(datum)))
    engine.give(datum)


def give_element(engine, steps, number, datum, place):
    """Gives one element of an every, the further ones being a choice."""
    if number == len(steps):
        engine.back()
        return
    step = steps[number]
    is_open = number + 1 < len(steps)
    if is_open:
        engine.choice("every", (steps, number + 1, datum, place))
    engine.note(("part", step))
    engine.chose(number, is_open)
    engine.give(datum[step], place + (step,))


def begin_side(engine, number, sides, datum, place, env):
    """Begins one of the two filters of a both, the further one being a choice."""
    if number == 0:
        engine.choice("both", (sides, datum, place, env))
    engine.note(("branch", number))
    engine.chose(number, number == 0)
    engine.begin(sides[number], datum, place, env)


def put_next(engine, change, left, whole, noted):
    """Asks for what is put at the first of the places that are left; behind the last one drops the noted ones.

    The change is the term with its env; whole is the datum as it is now.
    """
    term, env = change
    if not left:
        for place in places_to_drop(noted):
            deed = drop_at(whole, place)
            engine.note(("put", place))
            whole = behind(whole, deed)
        engine.give(whole)
        return
    part = part_to_change(term, whole, left[0])
    mark = engine.mark()
    told = (change, left, whole, noted)
    engine.choice("unput", told)
    engine.frame("put", (told, part, mark))
    engine.is_led = False
    engine.begin(new_part_of(term), part, (), env)


def put_outcome(engine, told, part, new):
    """Puts what was asked for, and goes on with the further places."""
    change, left, whole, noted = told
    deed = deed_at(change[0], left[0], part, new)
    whole = behind(whole, deed)
    engine.note(("put", left[0]))
    put_next(engine, change, left[1:], whole, noted)


def put_nothing(engine, told):
    """Goes on with the further places where nothing was given; a place that is to be exchanged is noted."""
    change, left, whole, noted = told
    is_noted = change[0][0] in ("change", "drop")
    put_next(engine, change, left[1:], whole, noted + left[:1] if is_noted else noted)

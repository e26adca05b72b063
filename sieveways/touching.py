"""Which patterns of a chooser places of it fit on some datum.

For each pattern a way to a place that fits it is looked for by itself, and then a datum on which the outcomes ahead do
not fail: so what does not matter for the way is not tried in all its forms.
"""

from sieveways.following import begun, followed, taken_by, walked_by
from sieveways.hunts import Splits, State
from sieveways.known import WIDE_HOLE
from sieveways.names import Names
from sieveways.patterns import covers_pattern, fits, leads
from sieveways.views import Unsettled, View


def touched_patterns(f, patterns):
    """The patterns that places of a chooser fit; those that one of these covers may be left out."""
    splits = Splits(Names((f,)))
    found = {}
    for goal in sorted(patterns, key=len):
        if not [one for one in found if covers_pattern(one, goal)]:
            for place in _places_shown(splits, f, goal):
                for pattern in patterns:
                    if fits(place, pattern):
                        found[pattern] = True
    return list(found)


def _places_shown(splits, f, goal):
    """Places of a chooser on some datum, one of which fits a pattern; none if there is no such datum."""
    waiting = [State((WIDE_HOLE,), (), 0, (), ((), (f,)))]
    while waiting:
        state = waiting.pop()
        place, terms = state.run
        if not leads(place, terms, goal):
            continue
        if not terms:
            places = _places_on_the_way(splits, f, goal, state.sketches)
            if places:
                return places
            continue
        try:
            further = _further(View(splits.names, state.sketches), place, terms, goal)
        except Unsettled as asked:
            waiting.extend(_least_trying_last(splits, state, (asked.number, asked.place, asked.question)))
            continue
        for run in reversed(further):
            waiting.append(State(state.sketches, (), 0, (), run))
    return ()


def _least_trying_last(splits, state, asked):
    """The states with each answer, the one to be tried first last: what is asked is so, but nothing more is put in."""
    states = splits.split(state, asked)
    return states if asked[2][0] == "key" else list(reversed(states))


def _further(view, place, terms, goal):
    """How a single way can go on: places, each with the terms that are still to be run from there."""
    term = terms[0]
    behind = terms[1:]
    word = term[0]
    if word in ("none", "fail"):
        return []
    if word == "every":
        return [(place, (step, *behind)) for step in _steps_of_every(view.names, goal[len(place)])]
    if word == "pipe":
        return [(place, (term[1], term[2], *behind))]
    if word == "both":
        return [(place, (term[1], *behind)), (place, (term[2], *behind))]
    if word == "if":
        return [(place, (taken_by(view, term, place), *behind))]
    gives, end = walked_by(view, term[1] if word in ("try", "other") else term, place)
    if gives:
        return [(end, behind)]
    return [(place, (term[2], *behind))] if word == "other" and gives is False else []


def _steps_of_every(names, step):
    """Steps to an element that is given by an every, where the place must fit a step of a pattern.

    Unnamed elements come first, as least is asked of them; an index needs all those ahead of it.
    """
    if step != ("every",):
        return [step]
    gap = [gap for gap in names.gaps if gap][0]
    return [("field", gap[0]), *[("item", index) for index in reversed(range(names.many + 1))]]


def _places_on_the_way(splits, f, goal, sketches):
    """The places of a chooser up to one that fits a pattern, on some datum of which this is known; none if none is."""
    waiting = [State(sketches, (), 0, (), begun(f))]
    while waiting:
        state = waiting.pop()
        asked = None
        while asked is None:
            try:
                run = followed(View(splits.names, state.sketches), state.run)
            except Unsettled as told:
                asked = (told.number, told.place, told.question)
                break
            _, places, ends = run
            if len(places) > len(state.run[1]) and fits(places[-1], goal):
                return places
            if ends is not None:
                break
            state = State(state.sketches, (), 0, (), run)
        if asked is not None and [task for task in state.run[0] if leads(task[0], task[1], goal)]:
            waiting.extend(_least_trying_last(splits, state, asked))
    return ()

"""Choosers followed over a view, step by step, so that a run can go on where it had to ask.

A run is (tasks, places, ends): what is still to be done, the last task first, the places given so far, and whether
it has ended, None while it goes on. A task is (place, terms, step): the terms are run one after the other from the
place on; if the first one is an every that goes on, step is the index or key of the element that it gave last.
"""

GIVES = "gives"
NONE = "none"
FAILS = "fails"


def begun(term):
    """The run of a chooser that has not done anything yet."""
    return (((), (term,), None),), (), None


def followed(view, run):
    """A run one task further; raises Unsettled if what it looks at is not known."""
    tasks, places, _ = run
    if not tasks:
        return (), places, True
    place, terms, step = tasks[-1]
    waiting = tasks[:-1]
    if not terms:
        return waiting, places + (place,), None
    further = _further(view, place, terms, step)
    if further is None:
        return (), places, False
    return waiting + further, places, None


def _further(view, place, terms, step):
    """The tasks that come of a task, the last one to be done first; None if it fails."""
    term = terms[0]
    behind = terms[1:]
    word = term[0]
    if word == "none":
        return ()
    if word == "every":
        return _further_parts(view, place, terms, step)
    if word == "pipe":
        return ((place, (term[1], term[2], *behind), None),)
    if word == "both":
        return (place, (term[2], *behind), None), (place, (term[1], *behind), None)
    if word == "if":
        return ((place, (taken_by(view, term, place), *behind), None),)
    told, end = _walked(view, term[1] if word in ("try", "other") else term, place)
    if told == GIVES:
        return ((end, behind, None),)
    if word == "other" and told == NONE:
        return ((place, (term[2], *behind), None),)
    return () if word == "try" else None


def _further_parts(view, place, terms, step):
    """The tasks that come of an every: its next element, and behind that the every itself; None if it fails."""
    if step is None and not view.is_of(place, "list") and not view.is_of(place, "dict"):
        return None
    given = view.step_behind(place, step)
    if given is None:
        return ()
    return (place, terms, given), (place + (given,), terms[1:], None)


def taken_by(view, term, place):
    """The filter that an if takes for the part at a place."""
    return term[2] if holds_in(view, term[1], place) else term[3]


def walked_by(view, walk, place):
    """Whether a walk gives an outcome, None if it fails, and the place of the outcome."""
    told, end = _walked(view, walk, place)
    return (None if told == FAILS else told == GIVES), end


def _walked(view, walk, place):
    """What a walk does from a place: it gives a place, gives none, or fails."""
    word = walk[0]
    if word == "same":
        return GIVES, place
    if word == "none":
        return NONE, None
    if word == "pipe":
        told, between = _walked(view, walk[1], place)
        return _walked(view, walk[2], between) if told == GIVES else (told, None)
    if word == "if":
        return _walked(view, taken_by(view, walk, place), place)
    if word == "fail" or not view.has(place, walk[1]):
        return FAILS, None
    return GIVES, place + (walk[1],)


def holds_in(view, test, place):
    """Whether a test holds for the part at a place; raises Unsettled if what it looks at is not known."""
    word = test[0]
    if word == "is":
        return view.is_of(place, test[1])
    if word == "equal":
        return view.is_equal(place, test[1])
    if word == "and":
        return holds_in(view, test[1], place) and holds_in(view, test[2], place)
    if word == "or":
        return holds_in(view, test[1], place) or holds_in(view, test[2], place)
    if word == "not":
        return not holds_in(view, test[1], place)
    told, end = _walked(view, test[1], place)
    return told == GIVES and holds_in(view, test[2], end)


def row_in(view, term):
    """The row of a chooser on a view; raises Unsettled if what it looks at is not known."""
    run = begun(term)
    while run[2] is None:
        run = followed(view, run)
    return run[1], run[2]

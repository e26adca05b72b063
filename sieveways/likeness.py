"""Likeness of choosers: whether they give the same places for all data, or the least datum where they do not."""

from sieveways.choosers import chosen, demand_chooser
from sieveways.errors import NoQuestion
from sieveways.forms import begins_kind
from sieveways.hunts import ASK, DROP, FOUND, GO, Hunt, Splits
from sieveways.known import HOLE
from sieveways.names import Names
from sieveways.sketches import answers_named, sketched_named
from sieveways.spots import part_at_spot, spots, with_spot
from sieveways.told import is_told_alike


def row_of(f, datum):
    """The row of a chooser on a datum: its places, and whether it ends."""
    found, failing = chosen(f, datum)
    return found, failing is None


def parting(f, g):
    """The first datum on which the rows of two choosers are different, None if they are alike."""
    return _first_datum((f, g), _judge_parting)


def are_alike(f, g):
    """Whether two choosers have the same row on every datum."""
    return parting(f, g) is None


def places_within(f, g):
    """The first datum on which neither fails and a place of f is none of g, None if there is none."""
    return _first_datum((f, g), _judge_places)


def _first_datum(choosers, judge):
    for chooser in choosers:
        demand_chooser(chooser)
    hunt = Hunt(Splits(Names(choosers)), tuple([("ahead", chooser) for chooser in choosers]), judge)
    found = hunt.first()
    return None if found is None else tuple(found)


def _judge_parting(rows, places, ends):
    if not rows:
        return GO
    if places != rows[0][0][:len(places)]:
        return FOUND
    if ends is None:
        return GO
    return DROP if (places, ends) == rows[0] else FOUND


def _judge_places(rows, places, ends):
    if ends is False:
        return DROP
    if not rows or ends is None:
        return DROP if ends and not places else GO
    return FOUND if [place for place in rows[0][0] if place not in places] else DROP


def likeness(f, g):
    """A paper of likeness of two choosers, None if they are not alike."""
    demand_chooser(f)
    demand_chooser(g)
    names = Names((f, g))
    hunt = Hunt(Splits(names), (("ahead", f), ("ahead", g)), _judge_parting)
    nodes = [None]
    waiting = [(0, hunt.start(HOLE))]
    while waiting:
        index, state = waiting.pop()
        verdict, state, asked = hunt.pursued(state)
        if verdict == FOUND:
            return None
        if verdict == DROP:
            nodes[index] = state.found[0]
            continue
        _, place, question = asked
        begin = len(nodes)
        for sketch in answers_named(names, state.sketches[0], place, question):
            waiting.append((len(nodes), state.with_sketch(0, sketch)))
            nodes.append(None)
        nodes[index] = (place, question, begin, len(nodes))
    return _paper_of(nodes)


def _paper_of(nodes):
    """The paper of a tree that is told as a list, each node ahead of those below it."""
    papers = [None] * len(nodes)
    for index in reversed(range(len(nodes))):
        node = nodes[index]
        if len(node) == 2:
            papers[index] = ("row", *node)
        else:
            place, question, begin, end = node
            papers[index] = (ASK, place, question, tuple(papers[begin:end]))
    return papers[0]


def is_likeness(f, g, value):
    """Whether any value is a right paper of likeness of two choosers."""
    demand_chooser(f)
    demand_chooser(g)
    names = Names((f, g))
    waiting = [(HOLE, value)]
    while waiting:
        sketch, paper = waiting.pop()
        if not isinstance(paper, tuple) or not paper or not isinstance(paper[0], str):
            return False
        if len(paper) == 3 and paper[0] == "row":
            told = sketched_named(names, f, g, sketch)
            if told[0] == ASK or not all([is_told_alike(paper[1:], row) for row in told[1:]]):
                return False
        elif len(paper) == 4 and paper[0] == ASK:
            further = _asked(names, sketch, paper)
            if further is None:
                return False
            waiting.extend(further)
        else:
            return False
    return True


def _asked(names, sketch, paper):
    """The sketches behind the question of a paper, each with its paper; None if it is not asked rightly."""
    _, place, question, papers = paper
    try:
        sketches = answers_named(names, sketch, place, question)
    except NoQuestion:
        return None
    if not isinstance(papers, tuple) or len(papers) != len(sketches):
        return None
    return list(zip(sketches, papers))


def needless(f):
    """The spots of all filters, other than same and none, that can be replaced by same or by none."""
    demand_chooser(f)
    return tuple([spot for spot in spots(f) if _replaced(f, spot) is not None])


def thinned(f):
    """A chooser alike to f in which no part is needless."""
    demand_chooser(f)
    whole = f
    number = 0
    unchanged = 0
    # What stands ahead may become needless by what is left out behind it, so it is gone round until all is looked at.
    while unchanged < len(list(spots(whole))):
        found = list(spots(whole))
        number = number if number < len(found) else 0
        new = _replaced(whole, found[number])
        unchanged = unchanged + 1 if new is None else 0
        whole = whole if new is None else new
        number += 1
    return whole


def _replaced(f, spot):
    """A chooser alike to f with same or none at a spot, None if there is no such one."""
    word = part_at_spot(f, spot)[0]
    if word in ("same", "none") or begins_kind(word, "test"):
        return None
    for part in (("same",), ("none",)):
        whole = with_spot(f, spot, part)
        if are_alike(f, whole):
            return whole
    return None

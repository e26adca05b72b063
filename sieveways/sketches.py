"""Sketches: what is known of a datum, the questions that can be asked there, and choosers run on them."""

from sieveways.choosers import demand_chooser
from sieveways.errors import NoQuestion
from sieveways.following import row_in
from sieveways.known import (
    ABSENT, EMPTY_LIST, HOLE, MOST_ENDS, closed, empty_dict, longer, node_at, with_gap, with_key, with_node,
)
from sieveways.names import Names
from sieveways.views import Unsettled, View
from sieveways.words import is_integer


def answers(f, g, sketch, place, question):
    """The sketches with each answer to a question at a place."""
    demand_chooser(f)
    demand_chooser(g)
    return answers_named(Names((f, g)), sketch, place, question)


def answers_named(names, sketch, place, question):
    """The sketches with each answer to a question, for choosers that name this."""
    node = node_at(sketch, place)
    if node is None or not _can_be_asked(names, node, question):
        raise NoQuestion(question)
    wholes = [with_node(sketch, place, part) for part in _parts(names, node, question)]
    if question[0] in ("sort", "value", "key"):
        return wholes
    if question[0] == "more" and names.is_named(len(node[1])):
        return wholes
    # The first answer puts nothing in.
    return wholes[:1] + [whole for whole in wholes[1:] if View(names, (whole,)).ends() <= MOST_ENDS]


def _can_be_asked(names, node, question):
    """Whether any value is a question at a node."""
    if not isinstance(question, tuple) or not question or not isinstance(question[0], str):
        return False
    word = question[0]
    if len(question) == 1:
        if word == "more":
            return node[0] == "list" and not node[2]
        return word == "sort" and node[0] == "hole" or word == "value" and node[0] in ("number", "text")
    told = question[1]
    if len(question) > 2 or node[0] != "dict":
        return False
    if word == "key":
        return isinstance(told, str) and told in names.fields and told not in [key for key, _ in node[1]]
    return word == "gap" and is_integer(told) and 0 <= told < len(node[2]) and node[2][told] is None


def _parts(names, node, question):
    """What may stand in the place of a node behind a question, whatever else there is in the datum."""
    word = question[0]
    if word == "sort":
        leaves = [("leaf", None), ("leaf", False), ("leaf", True)]
        return [*leaves, ("number",), ("text",), EMPTY_LIST, empty_dict(names)]
    if word == "value":
        told = names.numbers if node[0] == "number" else names.texts
        return [*[("leaf", leaf) for leaf in told], ("other", node[0])]
    if word == "more":
        return [closed(node), longer(node, HOLE)]
    if word == "key":
        return [with_key(node, question[1], part) for part in (ABSENT, HOLE)]
    keys = names.gaps[question[1]]
    return [with_gap(node, question[1], keys[:many], HOLE) for many in range(len(keys) + 1)]


def sketched(f, g, sketch):
    """The rows of two choosers on a sketch, or the first question without which they cannot go on."""
    demand_chooser(f)
    demand_chooser(g)
    return sketched_named(Names((f, g)), f, g, sketch)


def sketched_named(names, f, g, sketch):
    """The rows of two choosers, that name this, on a sketch, or the first question."""
    view = View(names, (sketch,))
    try:
        return "rows", row_in(view, f), row_in(view, g)
    except Unsettled as asked:
        return "ask", asked.place, asked.question

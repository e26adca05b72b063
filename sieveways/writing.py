"""The pieces of least texts."""

from sieveways.data import steps_into
from sieveways.forms import FORMS, PART_KINDS, kinds_and_parts
from sieveways.grammar import ALONE, CALLED, SIGNS, level_of, rooms_of


def term_pieces(term, room=0):
    """The pieces of a filter or test, in parentheses if it is looser than its place has room for."""
    inner = [part for _, part in kinds_and_parts(term)]
    parts = [term_pieces(part, low) for part, low in zip(inner, rooms_of(term, len(inner)))]
    told = _told(term, parts)
    return ["(", *told, ")"] if level_of(term) < room else told


def _told(term, parts):
    """The pieces of a filter or test, with those of its parts."""
    word = term[0]
    if word in ALONE:
        return [ALONE[word]]
    if word in SIGNS:
        return [*parts[0], SIGNS[word], *parts[1]]
    if word in CALLED:
        return [word, "(", *_listed(_fields(term, parts)), ")"]
    action = PIECES[word]
    return action(term, parts)


def _fields(term, parts):
    """The pieces of each thing that stands behind the word of a form."""
    left = list(parts)
    fields = []
    for kind, field in zip(FORMS[term[0]], term[1:]):
        if kind in PART_KINDS:
            fields.append(left.pop(0))
        elif kind == "key":
            fields.append(["." + field])
        else:
            fields.append([str(field)] if kind == "index" else ["$" + field])
    return fields


def _listed(rows):
    """The pieces of several things with semicolons between them."""
    found = []
    for row in rows:
        found.extend([";", *row] if found else row)
    return found


def _step(term, _):
    return [f".{term[1]}"]


def _name(term, _):
    return ["$" + term[1]]


def _leaf(term, _):
    return [leaf_piece(term[1])]


def _list(_, parts):
    return ["[", *parts[0], "]"]


def _dict(term, parts):
    return ["{", *_listed([[entry[0], ":", *part] for entry, part in zip(term[1], parts)]), "}"]


def _if(term, parts):
    return [term[0], *parts[0], "then", *parts[1], "else", *parts[2], "end"]


def _as(term, parts):
    return [*parts[0], "as", "$" + term[2], "|", *parts[1]]


def _def(term, parts):
    names = ["(", *_listed([[name] for name in term[2]]), ")"] if term[2] else []
    return ["def", term[1], *names, ":", *parts[0], "in", *parts[1]]


def _call(term, parts):
    return [term[1], "(", *_listed(parts), ")"] if parts else [term[1]]


def _sort(term, _):
    return [term[0], term[1]]


def _equal(term, _):
    return [term[0], leaf_piece(term[1])]


def _not(term, parts):
    return [term[0], *parts[0]]


PIECES = {
    "field": _step, "item": _step, "name": _name, "leaf": _leaf, "list": _list, "dict": _dict, "if": _if, "when": _if,
    "as": _as, "def": _def, "call": _call, "is": _sort, "equal": _equal, "not": _not,
}


def leaf_piece(leaf):
    """The piece of a leaf."""
    if isinstance(leaf, str):
        escaped = leaf.replace("\\", "\\\\").replace("\"", "\\\"")
        return "\"" + escaped + "\""
    if leaf is None:
        return "null"
    if isinstance(leaf, bool):
        return "yes" if leaf else "no"
    return str(leaf)


def datum_pieces(datum):
    """The pieces of a datum."""
    if isinstance(datum, list):
        return ["[", *_listed([datum_pieces(part) for part in datum]), "]"]
    if isinstance(datum, dict):
        return ["{", *_listed([[key, ":", *datum_pieces(datum[key])] for key in steps_into(datum)]), "}"]
    return [leaf_piece(datum)]

"""Shapes: which values are some."""

from sieveways.data import SORTS, is_leaf
from sieveways.filters import MOST_LEVELS, is_chooser, is_index
from sieveways.words import is_free_name, is_integer, is_name

MOST_LEAST = 4

# What stands behind each word, in turn.
SHAPES = {
    "any": (),
    "is": ("sort",),
    "equal": ("leaf",),
    "key": ("name", "shape"),
    "item": ("index", "shape"),
    "each": ("shape",),
    "least": ("length",),
    "and": ("shape", "shape"),
    "or": ("shape", "shape"),
    "not": ("shape",),
    "name": ("free",),
    "all": ("chooser", "shape"),
    "some": ("chooser", "shape"),
}


def is_shape(value):
    """Whether any value is a shape."""
    waiting = [(value, 1)]
    while waiting:
        shape, level = waiting.pop()
        if level > MOST_LEVELS or not _has_form(shape):
            return False
        waiting.extend([(part, level + 1) for part in shapes_in(shape)])
    return True


def shapes_in(shape):
    """The shapes that stand directly in a shape, in order."""
    return [field for told, field in zip(SHAPES[shape[0]], shape[1:]) if told == "shape"]


def _has_form(value):
    """Whether any value has the form of a shape, as far as can be told without the shapes in it."""
    if not isinstance(value, tuple) or not value or not isinstance(value[0], str) or value[0] not in SHAPES:
        return False
    fields = SHAPES[value[0]]
    if len(value) != len(fields) + 1:
        return False
    return all([_is_field(field, told) for told, field in zip(fields, value[1:])])


def _is_field(value, told):
    """Whether any value can stand where the table of shapes tells this word; shapes are looked at later."""
    if told == "sort":
        return value in SORTS
    if told == "leaf":
        return is_leaf(value)
    if told == "name":
        return is_name(value)
    if told == "free":
        return is_free_name(value)
    if told == "index":
        return is_index(value)
    if told == "length":
        return is_integer(value) and 0 <= value <= MOST_LEAST
    return told == "shape" or is_chooser(value)

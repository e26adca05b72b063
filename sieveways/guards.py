"""Guards of houses: what must hold of filters, shapes and data by their names."""

from sieveways.bounds import apart
from sieveways.data import alike
from sieveways.entries import names_in
from sieveways.errors import Endless, TooGreat
from sieveways.filters import is_chooser
from sieveways.likeness import parting, places_within
from sieveways.shapes import Shapes
from sieveways.told import is_told_alike
from sieveways.words import is_free_name

# What each guard names.
GUARDS = {
    "alike": ("filter", "filter"), "within": ("filter", "filter"), "apart": ("filter", "filter"),
    "never": ("filter", "shape"), "keeps": ("filter", "shape"), "has": ("datum", "shape"),
}


def is_guard(value):
    """Whether any value has the form of a guard."""
    if not isinstance(value, tuple) or len(value) != 3 or not all([isinstance(word, str) for word in value]):
        return False
    return value[0] in GUARDS and is_free_name(value[1]) and is_free_name(value[2])


def holds_in_house(guard, content):
    """Whether a guard holds."""
    word, first, second = guard
    if word == "has":
        return first in content.table and _is_in_shape(content, second, content.table[first])
    choosers = [_plain_chooser(content, name) for kind, name in zip(GUARDS[word], guard[1:]) if kind == "filter"]
    if not all([chooser is not None for chooser in choosers]):
        return False
    if word == "alike":
        return parting(*choosers) is None
    if word == "within":
        return places_within(*choosers) is None
    if word == "apart":
        return apart(*choosers) is None
    return _holds_for_shape(word, choosers[0], content, second)


def _is_in_shape(content, name, datum):
    shapes = content.shelf.shapes
    return name in shapes and Shapes(shapes).has(("name", name), datum)


def _holds_for_shape(word, chooser, content, name):
    told = content.shelf.shapes
    if name not in told:
        return False
    shapes = Shapes(told)
    shape = ("name", name)
    if word == "never":
        return shapes.failing(chooser, shape) is None
    return shapes.shape_within(shape, ("all", chooser, shape)) is None


def _plain_chooser(content, name):
    """The plain filter of a name, None if it cannot be told or is no chooser."""
    told = _filter_told(content, name)
    return told[1] if told[0] == "plain" and is_chooser(told[1]) else None


def _filter_told(content, name):
    """What a name tells of a filter: its plain filter, or why there is none."""
    if name not in content.shelf.filters:
        return "gone", name
    try:
        return "plain", content.shelf.plain(name)
    except Endless as endless:
        return "endless", endless.name
    except TooGreat as great:
        return "great", great.name


def _shape_told(content, name):
    """What a name tells of a shape: its formula and those of all shapes that it uses; nothing if it is not there."""
    shapes = content.shelf.shapes
    used = {}
    waiting = [name]
    while waiting:
        other = waiting.pop()
        if other in shapes and other not in used:
            used[other] = shapes[other]
            waiting.extend([row[0] for row in names_in(shapes[other])])
    return tuple([(other, used[other]) for other in sorted(used)])


def _datum_told(content, name):
    """The datum of a name in a list; an empty one if it is not there."""
    return [content.table[name]] if name in content.table else []


def looks_at(guard, before, behind):
    """Whether what a guard names is in one content not what it is in another one."""
    return not all([_is_same(kind, name, before, behind) for kind, name in zip(GUARDS[guard[0]], guard[1:])])


def _is_same(kind, name, before, behind):
    if kind == "datum":
        return alike(_datum_told(before, name), _datum_told(behind, name))
    if kind == "shape":
        return is_told_alike(_shape_told(before, name), _shape_told(behind, name))
    return is_told_alike(_filter_told(before, name), _filter_told(behind, name))

"""Values of every kind that a test may hand to a function that takes any value."""

from sieveways.errors import Broken, InvalidDatum, Unknown


def nested(levels, make=lambda inner: [inner], core=None):
    """A value that is so many levels deep."""
    value = core
    for _ in range(levels - 1):
        value = make(value)
    return value


def any_values():
    """A list of values of each kind that "any value" allows."""
    return [
        None, True, False, 0, 1, -1, 99, 100, 10 ** 99, -(10 ** 99), "", "a", "same", "abcdefghi", "\n", "%", "\u00e9",
        (), ("same",), ("a",), (0,), (True,), (None,), ((),), ([],), ({}, 1), [], ["same"], [0], [[]], {}, {"a": 1},
        {1: 1}, {("a",): []}, {None: {}}, InvalidDatum(3), Unknown("a", "b"), Broken(0), [InvalidDatum(None)],
        (Broken(1),), {"a": Broken(2)}, {Broken(3): 1},
        nested(150), nested(150, lambda inner: (inner,)), nested(150, lambda inner: {"a": inner}),
        nested(150, lambda inner: ("pipe", inner, inner)), nested(150, lambda inner: [inner, inner]),
        nested(150, lambda inner: ("not", inner)), nested(150, lambda inner: ("first", inner)),
    ]


def shown(value):
    """A text for each value, that tells sorts apart but not the order in which keys were put in."""
    if isinstance(value, dict):
        return "{" + ", ".join(f"{key!r}: {shown(value[key])}" for key in sorted(value)) + "}"
    if isinstance(value, (list, tuple)):
        inner = ", ".join(shown(part) for part in value)
        return f"[{inner}]" if isinstance(value, list) else f"({inner},)"
    return repr(value)

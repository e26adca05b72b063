"""Filters of a book without calls of the book: each is replaced by the filter that it calls."""

from sieveways.errors import Endless, TooGreat
from sieveways.filters import MOST_LEVELS, MOST_SPOTS, outer_calls
from sieveways.spots import spots, with_spot


def plain_filter(filters, name):
    """The filter of a name without calls of others; raises Endless, or TooGreat with this name."""
    called = {}
    for other in _order(filters, name):
        called[other] = outer_calls(filters[other])
    sizes = {}
    for other in called:
        sizes[other] = _size(filters[other], called[other], sizes)
    many, levels = sizes[name]
    if many > MOST_SPOTS or levels > MOST_LEVELS:
        raise TooGreat(name)
    plain = {}
    for other in called:
        plain[other] = filters[other]
        for spot, inner in called[other]:
            plain[other] = with_spot(plain[other], spot, plain[inner])
    return plain[name]


def _order(filters, name):
    """The filters that a filter calls, perhaps by others, and itself, each behind those that it calls.

    Raises Endless for the first one that is come to again within itself.
    """
    order = {}
    begun = {name: True}
    waiting = [(name, _called_names(filters, name))]
    while waiting:
        outer, left = waiting[-1]
        if not left:
            order[outer] = True
            waiting.pop()
            continue
        inner = left.pop(0)
        if inner in begun and inner not in order:
            raise Endless(inner)
        if inner not in begun:
            begun[inner] = True
            waiting.append((inner, _called_names(filters, inner)))
    return list(order)


def _called_names(filters, name):
    return [called for _, called in outer_calls(filters[name])]


def _size(term, calls, sizes):
    """How many spots a filter has, and how deep it is, if each call has the size that is told of its filter."""
    many = 0
    levels = 0
    called = {spot: sizes[name] for spot, name in calls}
    for spot in spots(term):
        inner = called.get(spot, (1, 1))
        many += inner[0]
        levels = max(levels, len(spot) + inner[1])
    return many, levels

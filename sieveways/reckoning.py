"""Data that are made of two others: sums, differences, products and comparisons."""

from sieveways.changes import demand_small
from sieveways.data import GREATEST, MOST_LETTERS, alike, comes_before, sort_of
from sieveways.errors import Fails


def reckoned(word, one, other):
    """What a filter of this word makes of two data; raises Fails."""
    if word == "alike":
        return alike(one, other)
    if word == "before":
        return comes_before(one, other)
    sort = sort_of(one)
    if sort != sort_of(other) or sort != "number" and (word != "sum" or sort not in ("text", "list", "dict")):
        raise Fails(word)
    if sort == "number":
        return _number(word, one, other)
    if sort == "text":
        if len(one) + len(other) > MOST_LETTERS:
            raise Fails("great")
        return one + other
    told = one + other if sort == "list" else {**one, **other}
    demand_small(told)
    return told


def _number(word, one, other):
    if word == "sum":
        number = one + other
    else:
        number = one - other if word == "less" else one * other
    if not -GREATEST <= number <= GREATEST:
        raise Fails("great")
    return number

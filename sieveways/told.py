"""Tuples of exactly the told forms: True is not 1 in them, and a list is no tuple."""

from sieveways.words import is_integer


def is_told_alike(value, right):
    """Whether any value is equal to a right one, which is made of tuples, truths, integers, strings and None."""
    if isinstance(right, tuple):
        if not isinstance(value, tuple) or len(value) != len(right):
            return False
        return all([is_told_alike(part, told) for part, told in zip(value, right)])
    if isinstance(right, bool):
        return isinstance(value, bool) and value == right
    if isinstance(right, int):
        return is_integer(value) and value == right
    if isinstance(right, str):
        return isinstance(value, str) and value == right
    return value is None

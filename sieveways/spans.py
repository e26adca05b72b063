"""Spans: where the parts of a filter stand in a text, and texts with other parts or with fewer parentheses."""

from sieveways.errors import InvalidText, NotFitting, OutOfRange
from sieveways.filters import is_chooser, is_filter, is_test, is_walk
from sieveways.forms import kinds_and_parts, narrowed
from sieveways.pieces import would_join
from sieveways.reading import part_read
from sieveways.spots import part_at_spot, with_spot
from sieveways.texts import read_term, write_term
from sieveways.told import is_told_alike
from sieveways.words import is_integer


def spans(text):
    """The spots of all parts in reading order, each with where the part begins and ends in the text."""
    whole, _ = part_read(text, "filter")
    found = []
    waiting = [((), whole)]
    while waiting:
        spot, part = waiting.pop()
        found.append((spot, part.at, part.end))
        # The last one waits longest, so spots are met in reading order.
        for number, inner in reversed(list(enumerate(part.inner))):
            waiting.append((spot + (number,), inner))
    return found


def part_around(text, index):
    """The spot of the deepest part in which the letter with an index stands; () if there is none."""
    part, _ = part_read(text, "filter")
    if not is_integer(index) or not 0 <= index < len(text):
        raise OutOfRange(index)
    spot = ()
    number = _inner_around(part, index)
    while number is not None:
        spot = spot + (number,)
        part = part.inner[number]
        number = _inner_around(part, index)
    return spot


def _inner_around(part, index):
    """The number of the part of a part in which the letter with an index stands, None if there is none."""
    found = [number for number, inner in enumerate(part.inner) if inner.at <= index < inner.end]
    return found[0] if found else None


def rewritten(text, spot, part):
    """The text with another part at a spot."""
    whole, _ = part_read(text, "filter")
    part_at_spot(whole.term, spot)
    if not _fits(part, _kind_at(whole.term, spot)):
        raise NotFitting(part)
    old = whole
    for number in spot:
        old = old.inner[number]
    new = write_term(part)
    plain = _with_letters(text, old.at, old.end, new)
    if _is_text_of(plain, with_spot(whole.term, spot, part)):
        return plain
    return _with_letters(text, old.at, old.end, "(" + new + ")")


def _kind_at(term, spot):
    """What must stand at a spot of a filter."""
    kind = "filter"
    for number in spot:
        told, term = kinds_and_parts(term)[number]
        kind = narrowed(kind, told)
    return kind


def _fits(value, kind):
    """Whether any value is a filter, walk, chooser or test."""
    if kind == "walk":
        return is_walk(value)
    if kind == "chooser":
        return is_chooser(value)
    return is_test(value) if kind == "test" else is_filter(value)


def _is_text_of(text, term):
    """Whether a text is read as a term."""
    try:
        return is_told_alike(read_term(text), term)
    except InvalidText:
        return False


def _with_letters(text, begin, end, new):
    """The text with other letters between two indexes, and spaces where two pieces would be read as one."""
    ahead = text[:begin]
    if would_join(ahead + new, begin):
        ahead = ahead + " "
    behind = text[end:]
    whole = ahead + new
    return whole + " " + behind if would_join(whole + behind, len(whole)) else whole + behind


def bare(text):
    """The text without needless pairs of parentheses around parts."""
    whole, pairs = part_read(text, "filter")
    left = sorted(pairs)
    while left:
        first, last = left[0]
        begin = first + 1
        if _is_text_of(text[:first] + " " + text[begin:last] + " " + text[last + 1:], whole.term):
            text = _with_letters(_with_letters(text, last, last + 1, ""), first, begin, "")
            begin = first
        _, pairs = part_read(text, "filter")
        left = sorted([pair for pair in pairs if pair[0] >= begin])
    return text


def tidied(text):
    """The least text of the filter that a text tells."""
    return write_term(read_term(text))

"""What choosers name: keys, indexes, numbers and texts, and the first others of each."""

from sieveways.data import order_key
from sieveways.forms import kinds_and_parts
from sieveways.words import MOST_LETTERS, is_integer

LETTERS = "abcdefghijklmnopqrstuvwxyz"
SIGNS = " !\"#$&'()*+,-./0123456789:;<=>?@ABCDEFGHIJKLMNOPQRSTUVWXYZ[\\]^_`abcdefghijklmnopqrstuvwxyz{|}~"
MOST_IN_GAP = 2


class Names:
    """What the choosers of a question name, and the first unnamed ones that stand for all others.

    `fields` are the named keys, ascending, `many` tells how many indexes are named, `gaps` has the first two names
    of each gap between named keys, `numbers` and `texts` are in the order of data.
    """

    def __init__(self, terms):
        told = _told_by(terms)
        self.fields = tuple(sorted(told["field"]))
        self.many = 1 + max(list(told["item"]), default=-1)
        self.numbers = tuple(sorted(told["number"], key=order_key))
        self.texts = tuple(sorted(told["text"], key=order_key))
        ends = ("",) + self.fields + (None,)
        self.gaps = tuple([_names_between(low, high) for low, high in zip(ends, ends[1:])])

    def is_named(self, step):
        """Whether an index or a key is named."""
        return step < self.many if is_integer(step) else step in self.fields

    def gap_of(self, key):
        """The number of the gap in which an unnamed key stands."""
        return len([field for field in self.fields if field < key])

    def numbers_with_others(self, others):
        """The named numbers and the first so many unnamed ones, in the order of data."""
        return tuple(sorted([*self.numbers, *_first_numbers(self.numbers, others)], key=order_key))

    def texts_with_others(self, others):
        """The named texts and the first so many unnamed ones, in the order of data."""
        return tuple(sorted([*self.texts, *_first_texts(self.texts, others)], key=order_key))


def _told_by(terms):
    """All keys, indexes, numbers and texts that terms have, each as the keys of a dict."""
    told = {"field": {}, "item": {}, "number": {}, "text": {}}
    waiting = list(terms)
    while waiting:
        term = waiting.pop()
        if term[0] in ("field", "item"):
            told[term[0]][term[1]] = True
        elif term[0] == "equal" and is_integer(term[1]):
            told["number"][term[1]] = True
        elif term[0] == "equal" and isinstance(term[1], str):
            told["text"][term[1]] = True
        waiting.extend([part for _, part in kinds_and_parts(term)])
    return told


def _names_between(low, high):
    """The first two names behind one and ahead of another one; none is ahead of "", none behind None."""
    found = []
    name = _next_name(low)
    while name and len(found) < MOST_IN_GAP and (high is None or name < high):
        found.append(name)
        name = _next_name(name)
    return tuple(found)


def first_names(many, named):
    """The first so many names that are not named, as Python orders strings."""
    found = []
    name = _next_name("")
    while len(found) < many:
        if name not in named:
            found.append(name)
        name = _next_name(name)
    return found


def _next_name(name):
    """The name right behind another one as Python orders strings; "" behind the last one."""
    if len(name) < MOST_LETTERS:
        return name + "a"
    kept = name.rstrip("z")
    if not kept:
        return ""
    return kept[:-1] + LETTERS[LETTERS.index(kept[-1]) + 1]


def _first_numbers(named, many):
    found = []
    number = 0
    while len(found) < many:
        if number not in named:
            found.append(number)
        number = 1 - number if number <= 0 else -number
    return found


def _first_texts(named, many):
    found = []
    for text in _texts_in_order():
        if text not in named:
            found.append(text)
        if len(found) == many:
            break
    return found


def _texts_in_order():
    """All texts of at most two characters, more than choosers can name."""
    yield ""
    for sign in SIGNS:
        yield sign
    for first in SIGNS:
        for second in SIGNS:
            yield first + second

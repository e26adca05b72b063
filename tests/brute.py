"""Data of few parts, all of them, and choosers at random: what is told by searching is compared with trying out."""

import functools
import random

from sieveways.data import order_key

LEAVES = (None, False, True, 0, 1, "", " ")


def compositions(total, many):
    """All tuples of so many numbers from 1 on with this sum."""
    if many == 0:
        return [()] if total == 0 else []
    return [
        (first,) + behind for first in range(1, total + 1) for behind in compositions(total - first, many - 1)
    ]


def key_sets(keys, many):
    if many == 0:
        return [()]
    return [
        (key,) + behind for index, key in enumerate(keys) for behind in key_sets(keys[index + 1:], many - 1)
    ]


@functools.lru_cache(maxsize=None)
def data_of(parts, leaves, keys):
    """All data with so many parts over these leaves and keys (ascending), in their order; not to be changed."""
    found = [[], {}] + list(leaves) if parts == 1 else []
    for many in range(1, parts):
        for sizes in compositions(parts - 1, many):
            rows = [[]]
            for size in sizes:
                rows = [row + [part] for row in rows for part in data_of(size, leaves, keys)]
            found.extend(rows)
            for names in key_sets(keys, many):
                found.extend(dict(zip(names, row)) for row in rows)
    return tuple(sorted(found, key=order_key))


def all_data(most, leaves, keys):
    """All data with at most so many parts, in their order."""
    for parts in range(1, most + 1):
        yield from data_of(parts, leaves, tuple(sorted(keys)))


class Maker:
    """Makes choosers at random, of at most so many spots."""

    def __init__(self, seed, keys=("a", "c"), leaves=(), everys=True, indexes=(0, 1), tests=True, words=None):
        self.random = random.Random(seed)
        self.keys = keys
        self.leaves = leaves
        self.everys = everys
        self.indexes = indexes
        self.tests = tests
        self.words = words or ("pipe", "both", "if", "try", "other")

    def atom(self, walk=False):
        words = ["same", "none", "fail"] + ["field"] * 4 * bool(self.keys) + ["item"] * 3 * bool(self.indexes)
        word = self.random.choice(words + ["every"] * 4 * (self.everys and not walk))
        if word == "field":
            return (word, self.random.choice(self.keys))
        return (word, self.random.choice(self.indexes)) if word == "item" else (word,)

    def test(self, spots):
        words = ["is"] + ["equal"] * bool(self.leaves)
        if spots > 3:
            words += ["not", "at", "at"]
        if spots > 5:
            words += ["and", "or"]
        word = self.random.choice(words)
        if word == "is":
            return (word, self.random.choice(["null", "no", "yes", "number", "text", "list", "dict"]))
        if word == "equal":
            return (word, self.random.choice(self.leaves))
        if word == "not":
            return (word, self.test(spots - 1))
        first = self.random.randint(1, spots - 2)
        if word == "at":
            return (word, self.chooser(first, True), self.test(spots - 1 - first))
        return (word, self.test(first), self.test(spots - 1 - first))

    def chooser(self, spots, walk=False):
        if spots < 3:
            return self.atom(walk)
        words = ("pipe", "if") if walk else self.words
        words = [word for word in words if word != "if" or self.tests and spots >= 4]
        word = self.random.choice(words or ["atom"])
        if word == "atom":
            return self.atom(walk)
        if word == "try":
            return (word, self.chooser(self.random.randint(1, spots - 1), True))
        if word == "if":
            first = self.random.randint(1, spots - 3)
            second = self.random.randint(1, max(1, spots - 2 - first))
            return (word, self.test(first), self.chooser(second, walk), self.chooser(spots - 1 - first - second, walk))
        first = self.random.randint(1, spots - 2)
        second = self.chooser(spots - 1 - first, walk)
        return (word, self.chooser(first, walk or word == "other"), second)

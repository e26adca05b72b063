"""What shapes say, told by the table of the document alone, and shapes made at random."""

from sieveways.choosers import chosen
from sieveways.data import alike, part_at, sort_of
from tests.brute import Maker


def plain_has(shapes, shape, datum):
    """Whether a datum is in a shape."""
    word = shape[0]
    inner = lambda part, told: plain_has(shapes, part, told)
    if word == "any":
        return True
    if word == "is":
        return sort_of(datum) == shape[1]
    if word == "equal":
        return alike(datum, shape[1])
    if word == "key":
        return isinstance(datum, dict) and shape[1] in datum and inner(shape[2], datum[shape[1]])
    if word == "item":
        return isinstance(datum, list) and shape[1] < len(datum) and inner(shape[2], datum[shape[1]])
    if word == "each":
        parts = datum.values() if isinstance(datum, dict) else datum
        return isinstance(datum, (list, dict)) and all(inner(shape[1], part) for part in parts)
    if word == "least":
        return isinstance(datum, list) and len(datum) >= shape[1]
    if word == "and":
        return inner(shape[1], datum) and inner(shape[2], datum)
    if word == "or":
        return inner(shape[1], datum) or inner(shape[2], datum)
    if word == "not":
        return not inner(shape[1], datum)
    if word == "name":
        return inner(shapes[shape[1]], datum)
    places, failing = chosen(shape[1], datum)
    if failing is not None:
        return False
    found = [inner(shape[2], part_at(datum, place)) for place in places]
    return all(found) if word == "all" else any(found)


class ShapeMaker(Maker):
    """Makes shapes at random, of about so many shapes, filters and tests."""

    def shape(self, many, names=(), is_taken=False):
        """A shape that may use names: such a name stands within a key, an item or an each, and in no all or some."""
        pick = self.random.choice
        if many < 2:
            word = pick(["any", "is", "is", "equal", "least"])
            if word == "is":
                return (word, pick(["null", "no", "yes", "number", "text", "list", "dict"]))
            if word == "equal":
                return (word, pick([None, True, False, 0, 1, "", "a"]))
            return (word, self.random.randint(0, 3)) if word == "least" else (word,)
        words = ["key", "key", "item", "each", "each", "not"]
        if many > 2:
            words += ["and", "and", "or", "all", "some", "all", "some"]
        word = pick(words)
        if word == "key":
            return (word, pick(self.keys), self.inner(many - 1, names, is_taken))
        if word == "item":
            return (word, pick(self.indexes), self.inner(many - 1, names, is_taken))
        if word == "each":
            return (word, self.inner(many - 1, names, is_taken))
        if word == "not":
            return (word, self.shape(many - 1, names, is_taken))
        half = self.random.randint(1, many - 2)
        if word in ("and", "or"):
            return (word, self.shape(half, names, is_taken), self.shape(many - 1 - half, names, is_taken))
        return (word, self.chooser(half), self.shape(many - 1 - half, names, True))

    def inner(self, many, names, is_taken):
        """A shape of an element."""
        if names and not is_taken and self.random.random() < 0.4:
            return ("name", self.random.choice(names))
        return self.shape(many, names, is_taken)

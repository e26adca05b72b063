"""Facts: what shapes tell of a datum, without all and some, each told once and called by its number.

A fact is a flat tuple that begins like the shape that tells the same; facts in it are numbers of facts told ahead.
A name stays a fact of its own.
"""

from sieveways.data import sort_of
from sieveways.formulas import shapes_in

ALWAYS = 0
NEVER = 1


class Facts:
    """All facts that have been told."""

    def __init__(self):
        self.told = [("any",), ("not", ALWAYS)]
        self.numbers = {("any",): ALWAYS, ("not", ALWAYS): NEVER}

    def fact(self, *told):
        """The number of a fact."""
        number = self.numbers.get(told)
        if number is None:
            number = len(self.told)
            self.numbers[told] = number
            self.told.append(told)
        return number

    def negated(self, one):
        """That a fact is not so."""
        told = self.told[one]
        return told[1] if told[0] == "not" else self.fact("not", one)

    def together(self, one, other):
        """That both facts are so."""
        if one == ALWAYS or other == NEVER or one == other:
            return other
        if other == ALWAYS or one == NEVER:
            return one
        return self.fact("and", one, other)

    def either(self, one, other):
        """That one of two facts is so, or both."""
        if one == NEVER or other == ALWAYS or one == other:
            return other
        if other == NEVER or one == ALWAYS:
            return one
        return self.fact("or", one, other)

    def at_step(self, word, step, inner):
        """That there is an element with this key or index, of which a fact is so."""
        return NEVER if inner == NEVER else self.fact(word, step, inner)

    def of_leaf(self, leaf):
        """That the datum is equal to a leaf; its sort is told, too, as True is not 1."""
        return self.fact("equal", sort_of(leaf), leaf)

    def of_each(self, inner):
        """That a fact is so of all elements of a list or dict."""
        return self.fact("each", inner)

    def of_some(self, inner):
        """That a fact is so of an element, asked of lists and dicts alone."""
        return self.negated(self.of_each(self.negated(inner)))


def fact_of_shape(facts, shape):
    """The fact that a shape tells."""
    waiting = [(shape, False)]
    done = []
    while waiting:
        part, is_ready = waiting.pop()
        inner = shapes_in(part)
        if is_ready:
            begin = len(done) - len(inner)
            numbers = done[begin:]
            del done[begin:]
            done.append(_told_by(facts, part, numbers))
        else:
            waiting.append((part, True))
            waiting.extend([(below, False) for below in reversed(inner)])
    return done[0]


def _told_by(facts, shape, inner):
    """The fact that a shape tells, of which the facts within it are known."""
    word = shape[0]
    if word == "equal":
        return facts.of_leaf(shape[1])
    if word in ("key", "item"):
        return facts.at_step(word, shape[1], inner[0])
    if word == "and":
        return facts.together(*inner)
    if word == "or":
        return facts.either(*inner)
    if word == "not":
        return facts.negated(inner[0])
    if word == "each":
        return facts.of_each(inner[0])
    if word == "all":
        return all_given(facts, shape[1], inner[0])
    if word == "some":
        return some_given(facts, shape[1], inner[0])
    return facts.fact(*shape)


def all_given(facts, f, inner):
    """That a chooser does not fail, and a fact is so of all its outcomes."""
    word = f[0]
    if word == "same":
        return inner
    if word == "none":
        return ALWAYS
    if word == "fail":
        return NEVER
    if word in ("field", "item"):
        return facts.at_step("key" if word == "field" else word, f[1], inner)
    if word == "every":
        return facts.of_each(inner)
    if word == "pipe":
        return all_given(facts, f[1], all_given(facts, f[2], inner))
    if word == "both":
        return facts.together(all_given(facts, f[1], inner), all_given(facts, f[2], inner))
    if word == "if":
        return _taken(facts, f[1], all_given(facts, f[2], inner), all_given(facts, f[3], inner))
    told = all_given(facts, f[1], inner)
    if word == "try":
        return facts.either(facts.negated(all_given(facts, f[1], ALWAYS)), told)
    # The walk of an other gives an outcome, or all outcomes are those of the second filter.
    return facts.together(told, facts.either(_one_given(facts, f[1], ALWAYS), all_given(facts, f[2], inner)))


def some_given(facts, f, inner):
    """That a chooser does not fail, and a fact is so of one of its outcomes."""
    return facts.together(all_given(facts, f, ALWAYS), _one_given(facts, f, inner))


def _one_given(facts, f, inner):
    """That a fact is so of one of the outcomes of a chooser, asked of data on which it does not fail."""
    word = f[0]
    if word == "same":
        return inner
    if word in ("none", "fail"):
        return NEVER
    if word in ("field", "item"):
        return all_given(facts, f, inner)
    if word == "every":
        return facts.of_some(inner)
    if word == "pipe":
        return _one_given(facts, f[1], _one_given(facts, f[2], inner))
    if word == "both":
        return facts.either(_one_given(facts, f[1], inner), _one_given(facts, f[2], inner))
    if word == "if":
        return _taken(facts, f[1], _one_given(facts, f[2], inner), _one_given(facts, f[3], inner))
    if word == "try":
        return some_given(facts, f[1], inner)
    further = facts.together(facts.negated(_one_given(facts, f[1], ALWAYS)), _one_given(facts, f[2], inner))
    return facts.either(_one_given(facts, f[1], inner), further)


def _taken(facts, test, first, second):
    """That the first fact is so where a test holds, and the second one where it does not."""
    if first == second:
        return first
    told = _fact_of_test(facts, test)
    return facts.either(facts.together(told, first), facts.together(facts.negated(told), second))


def _fact_of_test(facts, test):
    """The fact that a test holds."""
    word = test[0]
    if word == "equal":
        return facts.of_leaf(test[1])
    if word == "at":
        return some_given(facts, test[1], _fact_of_test(facts, test[2]))
    if word == "and":
        return facts.together(_fact_of_test(facts, test[1]), _fact_of_test(facts, test[2]))
    if word == "or":
        return facts.either(_fact_of_test(facts, test[1]), _fact_of_test(facts, test[2]))
    if word == "not":
        return facts.negated(_fact_of_test(facts, test[1]))
    return facts.fact(*test)


def shape_of_fact(facts, number):
    """A shape that tells a fact."""
    shapes = []
    # Facts within a fact have been told ahead of it.
    for told in facts.told[:number + 1]:
        shapes.append(_shape_of(told, shapes))
    return shapes[number]


def _shape_of(told, shapes):
    word = told[0]
    if word == "equal":
        return ("equal", told[2])
    if word in ("key", "item"):
        return (word, told[1], shapes[told[2]])
    if word in ("and", "or", "not", "each"):
        return (word, *[shapes[number] for number in told[1:]])
    return told

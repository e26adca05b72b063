"""Schemes: all facts on which one fact hangs, and which of them are so of a datum.

Facts are numbered anew, those about the same datum on which a fact hangs ahead of it. What is so of a datum is told by
an integer, its truths, in which the bit of each fact is set that is so. What is so of a list or dict hangs only on the
truths of its elements, which are put in one after the other.
"""

from sieveways.data import sort_of, steps_into

STEPPED = ("key", "item", "each")
INNER = ("and", "or", "not")


class Scheme:
    """The facts on which a fact hangs; names are those of the facts in a dict."""

    def __init__(self, facts, named, goal):
        self.facts = facts
        self.named = named
        order = self._ordered(self._behind_names(goal))
        self.bits = {number: 1 << place for place, number in enumerate(order)}
        self.lines = [(self.bits[number], self._line(facts.told[number])) for number in order]
        self.goal = self.bits[self._behind_names(goal)]
        self.each_lines = [(bit, line[1]) for bit, line in self.lines if line[0] == "each"]
        self.each_mask = sum([bit for bit, _ in self.each_lines])
        self.step_lines = [(bit, *line) for bit, line in self.lines if line[0] in ("key", "item")]
        self.step_mask = sum([row[0] for row in self.step_lines])
        self.watched = self._watched()

    def _watched(self):
        """The bits of all facts of a datum on which something else hangs: the goal, and what is told of elements."""
        found = self.goal
        for inner in [row[-1] for row in self.step_lines + self.each_lines]:
            found = found | inner
        return found

    def _behind_names(self, number):
        """The fact for which a name stands, perhaps behind further names."""
        while self.facts.told[number][0] == "name":
            number = self.named[self.facts.told[number][1]]
        return number

    def _inner(self, number):
        """The facts in a fact that are about the same datum, and those about its elements."""
        told = self.facts.told[number]
        if told[0] in STEPPED:
            return [], [self._behind_names(told[-1])]
        return ([self._behind_names(inner) for inner in told[1:]], []) if told[0] in INNER else ([], [])

    def _ordered(self, goal):
        """All facts on which a fact hangs, those about the same datum ahead of it."""
        begun = {}
        order = []
        ahead = [goal]
        while ahead:
            waiting = [(ahead.pop(), False)]
            while waiting:
                number, is_ready = waiting.pop()
                if is_ready:
                    order.append(number)
                elif number not in begun:
                    begun[number] = True
                    same, further = self._inner(number)
                    ahead.extend(further)
                    waiting.append((number, True))
                    waiting.extend([(inner, False) for inner in same])
        return order

    def _line(self, told):
        """A fact with the bits of the facts in it in the place of their numbers."""
        word = told[0]
        if word in INNER:
            return (word, *[self.bits[self._behind_names(inner)] for inner in told[1:]])
        return (*told[:-1], self.bits[self._behind_names(told[-1])]) if word in STEPPED else told

    def told_keys(self):
        """The keys that are told, ascending."""
        return sorted({row[2]: True for row in self.step_lines if row[1] == "key"})

    def many_indexes(self):
        """From this index on all indexes are alike."""
        return 1 + max([row[2] for row in self.step_lines if row[1] == "item"], default=-1)

    def most_least(self):
        """From this length on all lengths are alike."""
        return max([line[1] for _, line in self.lines if line[0] == "least"], default=0)

    def told_leaves(self):
        """All leaves that are told."""
        return [line[2] for _, line in self.lines if line[0] == "equal"]

    def lines_at(self, step):
        """The facts about the element at a key or index: (bit, bit of the fact about the element)."""
        word = "key" if isinstance(step, str) else "item"
        return [(row[0], row[3]) for row in self.step_lines if row[1] == word and row[2] == step] + self.each_lines

    def told_by(self, lines, truths):
        """Those facts about elements that an element at a step with these lines tells by its truths."""
        found = 0
        for bit, inner in lines:
            if truths & inner:
                found = found | bit
        return found

    def with_one(self, mask, told):
        """The facts about elements that are so with one element more, by what this one tells."""
        return (mask & told) | ((mask | told) & self.step_mask)

    def truths(self, sort, leaf, length, mask):
        """All facts that are so of a datum: its sort, the datum if it is a leaf, its length if it is a list."""
        found = mask
        for bit, line in self.lines:
            word = line[0]
            if word in INNER:
                is_so = _is_so_by_others(line, found)
            elif word == "equal":
                is_so = line[1] == sort and line[2] == leaf
            elif word == "least":
                is_so = sort == "list" and length >= line[1]
            else:
                is_so = word == "any" or word == "is" and line[1] == sort
            if is_so:
                found = found | bit
        return found

    def truths_of(self, datum):
        """All facts that are so of a datum."""
        sort = sort_of(datum)
        if sort not in ("list", "dict"):
            return self.truths(sort, datum, 0, 0)
        mask = self.each_mask
        for step in steps_into(datum):
            mask = self.with_one(mask, self.told_by(self.lines_at(step), self.truths_of(datum[step])))
        return self.truths(sort, None, len(datum), mask)


def _is_so_by_others(line, found):
    """Whether an and, an or, or a not is so, by what has been found of the facts in it."""
    told = [bool(found & inner) for inner in line[1:]]
    if line[0] == "and":
        return told[0] and told[1]
    return told[0] or told[1] if line[0] == "or" else not told[0]

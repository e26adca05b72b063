"""Data that grow: the least datum of which a fact is so.

Of all data with the same truths just the first one is kept, and of all rows of elements that come to the same just the
least one: what is made of others is greater. So data are made by ascending numbers of parts, until nothing new comes.
"""

from sieveways.data import MOST_LEVELS, MOST_PARTS, SORTS, order_key, sort_of
from sieveways.names import first_names
from sieveways.slots import Slots, first_leaves, list_slots


class Made:
    """A datum: its rank, the tuple by which it is ordered among data, its row of truths, and how deep it is."""

    def __init__(self, datum, rank, row, level):
        self.datum = datum
        self.rank = rank
        self.row = row
        self.level = level


class Rowed:
    """The least row of elements behind which a slot of a kind is free and certain facts about elements are so.

    `ranks` are those of the elements, of dicts each behind its key; `parts` tells how many parts the elements have,
    `level` how deep the deepest one is.
    """

    def __init__(self, state, ranks, inner, parts, level):
        self.state = state
        self.ranks = ranks
        self.inner = inner
        self.parts = parts
        self.level = level


class Growth:
    """Data that are made for a scheme.

    For each slot of each kind, `settled` has the rows by which it can be free, by their facts, and `firsts` the first
    element for each thing that an element can tell there. `pending` has rows by their parts, `fresh` those that have
    come last.
    """

    def __init__(self, scheme):
        self.scheme = scheme
        self.kinds = (list_slots(scheme), _dict_slots(scheme))
        self.settled = [slots.tables() for slots in self.kinds]
        self.firsts = [slots.tables() for slots in self.kinds]
        self.seen = {}
        self.closed = {}
        self.pending = {}
        self.fresh = []
        for kind in range(len(self.kinds)):
            self._offer(Rowed((kind, 0, scheme.each_mask), (), (), 0, 0))

    def first(self):
        """The first datum of which the goal is so, a tuple of one datum, None if there is none."""
        self._settle(0)
        parts = 0
        while parts < MOST_PARTS and (self.pending or self.fresh):
            parts += 1
            for made in self._made(parts):
                if made.row & self.scheme.goal:
                    return (made.datum,)
                self._spread(made)
            self._settle(parts)
        return None

    def _made(self, parts):
        """The data with so many parts that are made of what has come last, in their order."""
        found = [self._made_of(rowed) for rowed in self._ends()]
        if parts == 1:
            for leaf in first_leaves(self.scheme):
                found.append(Made(leaf, order_key(leaf), self.scheme.truths(sort_of(leaf), leaf, 0, 0), 1))
        return sorted(found, key=lambda made: made.rank)

    def _ends(self):
        """The rows among those that have come last of which lists and dicts are made that are like no lesser ones."""
        found = {}
        for rowed in self.fresh:
            kind, slot, mask = rowed.state
            ending = (kind, self.kinds[kind].length(slot), mask)
            if ending not in self.closed and (ending not in found or rowed.ranks < found[ending].ranks):
                found[ending] = rowed
        for ending in found:
            self.closed[ending] = True
        return list(found.values())

    def _made_of(self, rowed):
        """The list or dict with these elements."""
        kind, slot, mask = rowed.state
        slots = self.kinds[kind]
        truths = self.scheme.truths(slots.word, None, slots.length(slot), mask)
        rank = (rowed.parts + 1, SORTS.index(slots.word), rowed.ranks)
        return Made(_datum_of(slots.word, rowed), rank, truths, rowed.level + 1)

    def _spread(self, made):
        """Puts a datum behind all rows, if no one ahead of it is alike."""
        row = made.row & self.scheme.watched
        if row in self.seen:
            return
        self.seen[row] = True
        for kind, slots in enumerate(self.kinds):
            for slot, lines in enumerate(slots.lines):
                told = self.scheme.told_by(lines, row)
                if told not in self.firsts[kind][slot]:
                    self.firsts[kind][slot][told] = made
                    for rowed in list(self.settled[kind][slot].values()):
                        self._extend(rowed, made, told)

    def _settle(self, parts):
        """Keeps the rows with so many parts that come to something new."""
        self.fresh = []
        for kind, slots in enumerate(self.kinds):
            for slot in range(len(slots.steps) + 1):
                rows = self.pending.get((parts, kind, slot), {})
                for rowed in list(rows.values()):
                    self._keep(rowed)
        self.pending = {place: rows for place, rows in self.pending.items() if place[0] > parts}

    def _keep(self, rowed):
        """Keeps a row, puts all elements behind it, and passes over a slot of a dict."""
        kind, slot, mask = rowed.state
        slots = self.kinds[kind]
        if mask in self.settled[kind][slot]:
            return
        self.settled[kind][slot][mask] = rowed
        self.fresh.append(rowed)
        if slot < len(slots.steps):
            for told, made in list(self.firsts[kind][slot].items()):
                self._extend(rowed, made, told)
            if slots.word == "dict":
                self._offer(Rowed((kind, slot + 1, mask), rowed.ranks, rowed.inner, rowed.parts, rowed.level))

    def _extend(self, rowed, made, told):
        """Puts an element behind a row, if that is not too great."""
        kind, slot, mask = rowed.state
        slots = self.kinds[kind]
        parts = rowed.parts + made.rank[0]
        level = max(rowed.level, made.level)
        behind = slots.behind(slot)
        new = self.scheme.with_one(mask, told)
        if parts < MOST_PARTS and level < MOST_LEVELS and new not in self.settled[kind][behind]:
            rank = (slots.steps[slot], made.rank) if slots.word == "dict" else made.rank
            self._offer(Rowed((kind, behind, new), (*rowed.ranks, rank), (*rowed.inner, made.datum), parts, level))

    def _offer(self, rowed):
        """Notes a row, if it is the least one so far that comes to the same with so many parts."""
        kind, slot, mask = rowed.state
        rows = self.pending.setdefault((rowed.parts, kind, slot), {})
        if mask not in rows or rowed.ranks < rows[mask].ranks:
            rows[mask] = rowed


def _dict_slots(scheme):
    """The steps of dicts: the told keys, and as many first others as can be needed in a least datum."""
    keys = scheme.told_keys()
    others = first_names(len(scheme.each_lines), keys)
    return Slots(scheme, "dict", sorted([*keys, *others]), None)


def _datum_of(sort, rowed):
    if sort == "list":
        return list(rowed.inner)
    return {key: part for (key, _), part in zip(rowed.ranks, rowed.inner)}

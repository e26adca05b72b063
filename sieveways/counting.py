"""Numbers of parts: whether some datum of which a fact is so has so many.

What lists and dicts can come to is counted by rows of elements, as data grow, but all numbers of parts are kept, each
as a bit of an integer.
"""

from sieveways.data import sort_of
from sieveways.names import first_names
from sieveways.slots import Slots, first_leaves, list_slots


class Counts:
    """With how many parts in all each slot of each kind can be free, and how many parts an element there can have.

    `totals` has the former by the facts about elements that are so then, `counted` the latter by what elements tell.
    """

    def __init__(self, scheme):
        self.scheme = scheme
        self.kinds = (list_slots(scheme), _dict_slots(scheme))
        self.totals = [slots.tables() for slots in self.kinds]
        self.counted = [slots.tables() for slots in self.kinds]
        self.closed = {}
        for kind in range(len(self.kinds)):
            self.totals[kind][0][scheme.each_mask] = 1
            self._pass_over(kind, 0)

    def found_with(self, parts):
        """Whether the goal is so of some datum with so many parts, if fewer parts have been looked at."""
        found = self._truths_with(parts)
        for row in {truths & self.scheme.watched: True for truths in found}:
            self._spread(row, parts)
        for kind, slots in enumerate(self.kinds):
            for slot in range(len(slots.steps)):
                self._fill(kind, slot, parts)
            self._pass_over(kind, parts)
        return bool([truths for truths in found if truths & self.scheme.goal])

    def _truths_with(self, parts):
        """The truths of all data with so many parts."""
        found = {}
        if parts == 1:
            for leaf in first_leaves(self.scheme):
                found[self.scheme.truths(sort_of(leaf), leaf, 0, 0)] = True
        for kind, slots in enumerate(self.kinds):
            for slot, table in enumerate(self.totals[kind]):
                for mask, totals in table.items():
                    if (totals >> (parts - 1)) & 1:
                        found[self._closed(kind, slots.length(slot), mask)] = True
        return list(found)

    def _closed(self, kind, length, mask):
        """The truths of a list or dict with these facts about its elements."""
        ending = (kind, length, mask)
        if ending not in self.closed:
            self.closed[ending] = self.scheme.truths(self.kinds[kind].word, None, length, mask)
        return self.closed[ending]

    def _spread(self, row, parts):
        """Notes that an element with these truths can have so many parts."""
        for kind, slots in enumerate(self.kinds):
            for slot, lines in enumerate(slots.lines):
                table = self.counted[kind][slot]
                told = self.scheme.told_by(lines, row)
                table[told] = table.get(told, 0) | (1 << parts)

    def _fill(self, kind, slot, parts):
        """Puts elements in a slot by which there are so many parts in all."""
        behind = self.totals[kind][self.kinds[kind].behind(slot)]
        for told, sizes in self.counted[kind][slot].items():
            # The bits of the numbers of parts that are missing ahead of the element.
            ahead = sum([1 << (parts - size) for size in range(1, parts + 1) if (sizes >> size) & 1])
            for mask, totals in list(self.totals[kind][slot].items()):
                if totals & ahead:
                    new = self.scheme.with_one(mask, told)
                    behind[new] = behind.get(new, 0) | (1 << parts)

    def _pass_over(self, kind, parts):
        """Leaves slots of dicts without an element."""
        slots = self.kinds[kind]
        if slots.word == "dict":
            for slot in range(len(slots.steps)):
                behind = self.totals[kind][slot + 1]
                for mask, totals in list(self.totals[kind][slot].items()):
                    if (totals >> parts) & 1:
                        behind[mask] = behind.get(mask, 0) | (1 << parts)


def _dict_slots(scheme):
    """The steps of dicts: any number of other keys, told by the first one of them, then the told ones."""
    keys = scheme.told_keys()
    return Slots(scheme, "dict", [*first_names(1, keys), *keys], 0)

"""Slots: the steps at which lists and dicts get elements, one after the other, as a scheme looks at them."""

from sieveways.names import Names


class Slots:
    """The steps of lists or of dicts that a scheme tells apart, in order.

    `word` is "list" or "dict", `lines` are what the scheme tells of each step. Steps of dicts may be passed over.
    Behind an element in the slot that goes on, this slot is free again.
    """

    def __init__(self, scheme, word, steps, going_on):
        self.word = word
        self.steps = steps
        self.lines = [scheme.lines_at(step) for step in steps]
        self.going_on = going_on

    def behind(self, slot):
        """The slot that is free behind an element in a slot."""
        return slot if slot == self.going_on else slot + 1

    def length(self, slot):
        """How long a list is of which a slot is free, as far as lengths are told apart; 0 for dicts."""
        return slot if self.word == "list" else 0

    def tables(self):
        """An empty dict for each slot, and one for the end behind all of them."""
        return [{} for _ in range(len(self.steps) + 1)]


def list_slots(scheme):
    """The steps of lists: all those from a certain one on are alike."""
    many = max(scheme.many_indexes(), scheme.most_least())
    return Slots(scheme, "list", list(range(many + 1)), many)


def first_leaves(scheme):
    """The leaves that are told, and the first one of all others of each sort."""
    names = Names([("equal", leaf) for leaf in scheme.told_leaves()])
    return [None, False, True, *names.numbers_with_others(1), *names.texts_with_others(1)]

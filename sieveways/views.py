"""Data of which something is known, as choosers look at them: what is not known is asked for."""

from sieveways.data import alike, sort_of
from sieveways.known import known_steps, node_at, node_in, sort_known
from sieveways.words import is_integer


class Unsettled(Exception):
    """Something that is looked at is not known: the sketch, the place in it, and the question that tells it."""

    def __init__(self, number, place, question):
        self.number = number
        self.place = place
        self.question = question


class View:
    """A datum that is told by a sketch, or by several: one for the datum, and one for each part that is put into it.

    `puts` are the places at which the data of the second sketch and so on are put, one after the other; `base` is the
    number of the sketch of the datum into which they are put.
    """

    def __init__(self, names, sketches, puts=(), base=0):
        self.names = names
        self.sketches = sketches
        self.puts = puts
        self.base = base

    def located(self, place):
        """The number of the sketch that tells of a place, and the place in that sketch."""
        for number in reversed(range(len(self.puts))):
            put = self.puts[number]
            if place[:len(put)] == put:
                return number + 1, place[len(put):]
        return self.base, place

    def node(self, place):
        """What is known at a place; it is known to be there."""
        number, inner = self.located(place)
        return node_at(self.sketches[number], inner)

    def demand(self, place, question):
        """Asks for what is not known at a place."""
        number, inner = self.located(place)
        raise Unsettled(number, inner, question)

    def is_of(self, place, sort):
        """Whether the part at a place is of a sort."""
        node = self.node(place)
        if node[0] != "hole":
            return sort_known(node) == sort
        if len(node) == 1:
            self.demand(place, ("sort",))
        if sort in node[1]:
            self.demand(place, ("is", sort))
        return False

    def is_equal(self, place, leaf):
        """Whether the part at a place is equal to a leaf."""
        if not self.is_of(place, sort_of(leaf)):
            return False
        node = self.node(place)
        if node[0] in ("number", "text"):
            self.demand(place, ("value",))
        if node[0] == "leaf":
            return alike(node[1], leaf)
        if node[0] != "among" or leaf not in node[1]:
            return False
        if len(node[1]) > 1:
            self.demand(place, ("equal", leaf))
        return True

    def has(self, place, step):
        """Whether the list or dict at a place has an element at an index or key; no if it is of another sort."""
        if is_integer(step):
            return self.is_of(place, "list") and self.has_index(place, step)
        return self.is_of(place, "dict") and self.has_key(place, step)

    def has_index(self, place, index):
        """Whether the list at a place has an element with this index."""
        node = self.node(place)
        if index < len(node[1]):
            return True
        if not node[2]:
            self.demand(place, ("more",))
        return False

    def has_key(self, place, key):
        """Whether the dict at a place has a key."""
        if key not in self.names.fields:
            return key in self.gap_keys(place, self.names.gap_of(key))
        node = self.node(place)
        if key not in [told for told, _ in node[1]]:
            self.demand(place, ("key", key))
        return node_in(node, key) is not None

    def gap_keys(self, place, number):
        """The keys in a gap of the dict at a place."""
        gap = self.node(place)[2][number]
        if gap is None:
            self.demand(place, ("gap", number))
        return [key for key, _ in gap]

    def step_behind(self, place, step):
        """The index or key of the element behind another one, of the first one behind None, None behind the last."""
        if self.is_of(place, "list"):
            index = 0 if step is None else step + 1
            return index if self.has_index(place, index) else None
        fields = self.names.fields
        for number in range(len(fields) + 1):
            is_last = number == len(fields)
            if step is not None and not is_last and fields[number] <= step:
                continue
            for key in self.gap_keys(place, number):
                if step is None or key > step:
                    return key
            if not is_last and self.has_key(place, fields[number]):
                return fields[number]
        return None

    def ends(self, place=()):
        """How many unnamed elements within a part are known that have no unnamed one within them."""
        many = 0
        for step in known_steps(self.node(place)):
            inner = self.ends(place + (step,))
            many += inner or (0 if self.names.is_named(step) else 1)
        return many

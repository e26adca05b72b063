"""Shapes with names: which data are in them, and the least ones."""

from sieveways.choosers import demand_chooser
from sieveways.counting import Counts
from sieveways.data import copied
from sieveways.entries import (
    are_entries_alike, demand_known_shapes, demand_names, demand_not_standing, demand_shapes, first_unknown,
)
from sieveways.errors import UnknownShape
from sieveways.facts import ALWAYS, Facts, all_given, fact_of_shape, shape_of_fact
from sieveways.growing import Growth
from sieveways.schemes import Scheme


class Shapes:
    """Shapes that may use one another by their names."""

    def __init__(self, shapes):
        demand_names(shapes)
        demand_shapes(shapes)
        demand_known_shapes(shapes)
        demand_not_standing(shapes)
        self._shapes = {name: shapes[name] for name in sorted(shapes)}

    def __iter__(self):
        return iter(self._shapes)

    def __len__(self):
        return len(self._shapes)

    def __eq__(self, other):
        return isinstance(other, Shapes) and are_entries_alike(self._shapes, other._shapes)

    def has(self, shape, datum):
        """Whether a datum is in a shape."""
        self._demand_known(shape)
        facts = Facts()
        scheme = self._scheme(facts, fact_of_shape(facts, shape))
        return bool(scheme.truths_of(datum) & scheme.goal)

    def least(self, shape):
        """The first datum in a shape, None if there is none."""
        self._demand_known(shape)
        facts = Facts()
        return self._first(facts, fact_of_shape(facts, shape))

    def shape_parting(self, one, other):
        """The first datum that is in one of two shapes alone, None if there is none."""
        self._demand_known(one, other)
        facts = Facts()
        first, second = fact_of_shape(facts, one), fact_of_shape(facts, other)
        parted = [facts.together(first, facts.negated(second)), facts.together(facts.negated(first), second)]
        return None if first == second else self._first(facts, facts.either(*parted))

    def shape_within(self, one, other):
        """The first datum that is in the first shape and not in the other one, None if there is none."""
        self._demand_known(one, other)
        facts = Facts()
        first, second = fact_of_shape(facts, one), fact_of_shape(facts, other)
        return None if first == second else self._first(facts, facts.together(first, facts.negated(second)))

    def failing(self, f, shape):
        """The first datum in a shape on which a chooser fails, None if there is none."""
        self._demand_known(shape)
        demand_chooser(f)
        facts = Facts()
        fails = facts.negated(all_given(facts, f, ALWAYS))
        return self._first(facts, facts.together(fact_of_shape(facts, shape), fails))

    def sizes(self, shape, most):
        """For each number from 1 on whether some datum in a shape has so many parts."""
        self._demand_known(shape)
        facts = Facts()
        counts = Counts(self._scheme(facts, fact_of_shape(facts, shape)))
        return tuple([counts.found_with(parts) for parts in range(1, most + 1)])

    def simple(self, shape):
        """A shape of the same data without all and some; names stay names."""
        self._demand_known(shape)
        facts = Facts()
        return shape_of_fact(facts, fact_of_shape(facts, shape))

    def _demand_known(self, *shapes):
        """Raises UnknownShape for the first name in shapes that is not there."""
        for shape in shapes:
            name = first_unknown(shape, self._shapes)
            if name is not None:
                raise UnknownShape(name)

    def _scheme(self, facts, goal):
        """The scheme of a fact, with the shapes that are named in it, perhaps by others."""
        named = {}
        number = 0
        # New facts come behind while names are looked up.
        while number < len(facts.told):
            told = facts.told[number]
            if told[0] == "name":
                named[told[1]] = fact_of_shape(facts, self._shapes[told[1]])
            number += 1
        return Scheme(facts, named, goal)

    def _first(self, facts, goal):
        """The first datum of which a fact is so, None if there is none."""
        found = Growth(self._scheme(facts, goal)).first()
        return None if found is None else (copied(found[0]),)


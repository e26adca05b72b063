"""Books: filters and shapes with names, which may use one another."""

from sieveways.entries import (
    are_entries_alike, demand_filters, demand_known_calls, demand_known_shapes, demand_names, demand_not_standing,
    demand_shapes,
)
from sieveways.errors import NoName
from sieveways.plain import plain_filter
from sieveways.runs import tell_called


class Book:
    """Filters and shapes with names."""

    def __init__(self, filters, shapes):
        demand_names(filters)
        demand_names(shapes)
        demand_filters(filters)
        demand_shapes(shapes)
        demand_known_calls(filters)
        demand_known_shapes(shapes)
        demand_not_standing(shapes)
        self._filters = {name: filters[name] for name in sorted(filters)}
        self._shapes = {name: shapes[name] for name in sorted(shapes)}
        self._names = [*self._filters, *self._shapes]

    @property
    def filters(self):
        """The filters by their names."""
        return dict(self._filters)

    @property
    def shapes(self):
        """The shapes by their names."""
        return dict(self._shapes)

    def __iter__(self):
        return iter(self._names)

    def __eq__(self, other):
        if not isinstance(other, Book) or not are_entries_alike(self._filters, other._filters):
            return False
        return are_entries_alike(self._shapes, other._shapes)

    def filter(self, name):
        """The filter of a name."""
        _demand_there(name, self._filters)
        return self._filters[name]

    def shape(self, name):
        """The shape of a name."""
        _demand_there(name, self._shapes)
        return self._shapes[name]

    def plain(self, name):
        """The filter of a name without calls of the book."""
        _demand_there(name, self._filters)
        return plain_filter(self._filters, name)

    def tell(self, name, datum, *, limit=1000):
        """The whole run of a call of a filter, in which each filter of the book can be called."""
        _demand_there(name, self._filters)
        return tell_called(self._filters, name, datum, limit)


def _demand_there(name, entries):
    """Raises NoName for any value that is the name of none of these."""
    if not isinstance(name, str) or name not in entries:
        raise NoName(name)

"""What may stand in a book: free names, with closed filters and with shapes that use one another rightly."""

from sieveways.errors import InvalidEntry, InvalidName, Standing, Unknown
from sieveways.filters import first_unbound, is_filter
from sieveways.formulas import is_shape, shapes_in
from sieveways.told import is_told_alike
from sieveways.words import is_free_name


def demand_names(entries):
    """Raises InvalidName for the first key of a dict, any value, that is no free name."""
    for name in entries:
        if not is_free_name(name):
            raise InvalidName(name)


def demand_filters(filters):
    """Raises InvalidEntry for the first name, ascending, under which any value stands that is no filter."""
    for name in sorted(filters):
        if not is_filter(filters[name]):
            raise InvalidEntry(name)


def demand_shapes(shapes):
    """Raises InvalidEntry for the first name, ascending, under which any value stands that is no shape."""
    for name in sorted(shapes):
        if not is_shape(shapes[name]):
            raise InvalidEntry(name)


def demand_known_calls(filters):
    """Raises Unknown for the first filter, ascending, with a name or call that is bound neither in it nor by a name."""
    for name in sorted(filters):
        word = first_unbound(filters[name], filters)
        if word is not None:
            raise Unknown(name, word)


def demand_known_shapes(shapes):
    """Raises Unknown for the first shape, ascending, that names a shape that is not there."""
    for name in sorted(shapes):
        word = first_unknown(shapes[name], shapes)
        if word is not None:
            raise Unknown(name, word)


def first_unknown(shape, shapes):
    """The first name in a shape that is that of no shape in a dict, None if there is none."""
    for told in names_in(shape):
        if told[0] not in shapes:
            return told[0]
    return None


def names_in(shape):
    """All names in a shape from left to right.

    Each is told with whether a key, an item or an each is around it, and whether it stands within an all or a some.
    """
    found = []
    waiting = [(shape, False, False)]
    while waiting:
        part, is_inside, is_taken = waiting.pop()
        word = part[0]
        if word == "name":
            found.append((part[1], is_inside, is_taken))
        is_inside = is_inside or word in ("key", "item", "each")
        is_taken = is_taken or word in ("all", "some")
        waiting.extend([(inner, is_inside, is_taken) for inner in reversed(shapes_in(part))])
    return found


def demand_not_standing(shapes):
    """Raises Standing for the first shape, ascending, that comes back to itself as no shape may."""
    told = {name: names_in(shapes[name]) for name in sorted(shapes)}
    every_name = {name: [row[0] for row in told[name]] for name in told}
    standing = {name: [row[0] for row in told[name] if not row[1]] for name in told}
    taken = {name: [row[0] for row in told[name] if row[2]] for name in told}
    for name in told:
        around = [name, *_led_to(every_name, name)]
        if name in _led_to(standing, name) or [outer for outer in around if name in taken[outer]]:
            raise Standing(name)


def _led_to(further, name):
    """All names to which a name leads, by one step or more."""
    reached = {}
    waiting = list(further[name])
    while waiting:
        other = waiting.pop()
        if other not in reached:
            reached[other] = True
            waiting.extend(further[other])
    return reached


def are_entries_alike(one, other):
    """Whether two dicts have the same names with the same filters or shapes; names are ascending in both."""
    return is_told_alike(tuple(one.items()), tuple(other.items()))

"""What is known of a datum: the nodes of sketches, looked at and filled in by their places.

Lists and dicts are told as sketches tell them. What else stands in a node is of two kinds: the forms of sketches, and,
where data are searched for, ("hole", sorts), one of several sorts, and ("among", leaves), one of several leaves of one
sort, in the order of data.
"""

from sieveways.data import sort_of
from sieveways.words import is_integer

HOLE = ("hole",)
WIDE_HOLE = ("hole", ("null", "no", "yes", "number", "text", "list", "dict"))
ABSENT = ("absent",)
EMPTY_LIST = ("list", (), False)
MOST_ENDS = 2


def empty_dict(names):
    """A dict of which nothing is asked."""
    return ("dict", (), (None,) * len(names.gaps))


def known_pairs(node):
    """The keys that a dict is known to have, ascending, each with what is known of its value."""
    pairs = [pair for pair in node[1] if pair[1] != ABSENT]
    named = len(pairs)
    for gap in node[2]:
        pairs.extend(gap or ())
    return sorted(pairs, key=lambda pair: pair[0]) if len(pairs) > named else pairs


def known_steps(node):
    """The indexes or keys of the elements that a node is known to have, in order."""
    if node[0] == "list":
        return list(range(len(node[1])))
    return [key for key, _ in known_pairs(node)] if node[0] == "dict" else []


def parts_known(node):
    """How many parts a node is known to have, itself and those of its elements."""
    if node[0] == "list":
        return 1 + sum([parts_known(part) for part in node[1]])
    if node[0] == "dict":
        return 1 + sum([parts_known(part) for _, part in known_pairs(node)])
    return 1


def node_in(node, step):
    """What is known of the element at an index or key (any value), None if there is no such element yet."""
    if node[0] == "list":
        return node[1][step] if is_integer(step) and 0 <= step < len(node[1]) else None
    if node[0] != "dict" or not isinstance(step, str):
        return None
    for key, part in node[1]:
        if key == step:
            return None if part == ABSENT else part
    for gap in node[2]:
        for key, part in gap or ():
            if key == step:
                return part
    return None


def node_at(node, place):
    """What is known at a place (any value), None if it leads to nothing yet."""
    if not isinstance(place, tuple):
        return None
    for step in place:
        if node is None:
            return None
        node = node_in(node, step)
    return node


def with_node(node, place, part):
    """A node with another one at a place within it."""
    if not place:
        return part
    step = place[0]
    new = with_node(node_in(node, step), place[1:], part)
    if node[0] == "list":
        return ("list", node[1][:step] + (new,) + node[1][step + 1:], node[2])
    named = tuple([(key, new if key == step else old) for key, old in node[1]])
    gaps = tuple([
        None if gap is None else tuple([(key, new if key == step else old) for key, old in gap]) for gap in node[2]
    ])
    return ("dict", named, gaps)


def closed(node):
    """A list whose known elements are all."""
    return ("list", node[1], True)


def longer(node, hole):
    """A list with one more element."""
    return ("list", node[1] + (hole,), False)


def with_key(node, key, part):
    """A dict of which a named key is told."""
    return ("dict", tuple(sorted([*node[1], (key, part)], key=lambda pair: pair[0])), node[2])


def with_gap(node, number, keys, hole):
    """A dict of which the keys in a gap are told."""
    told = tuple([(key, hole) for key in keys])
    return ("dict", node[1], node[2][:number] + (told,) + node[2][number + 1:])


def sort_known(node):
    """The sort of a node that is no hole."""
    word = node[0]
    if word == "leaf":
        return sort_of(node[1])
    if word == "among":
        return sort_of(node[1][0])
    return node[1] if word == "other" else word

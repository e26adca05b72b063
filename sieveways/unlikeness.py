"""Whether the outcomes behind a change are the data that were put; what is not known is asked for."""

from sieveways.known import sort_known
from sieveways.views import View


def are_unlike(behind, places):
    """Whether a part at one of these places is not the datum that was put for it, in the view behind the puts."""
    for number, place in enumerate(places):
        told = View(behind.names, behind.sketches, (), number + 1)
        if _differ(behind, place, told, ()):
            return True
    return False


def _differ(one, place, other, inner):
    """Whether the part at a place of a view is not the one at a place of another view, into which nothing is put."""
    if one.located(place) == (other.base, inner):
        # Both are told by one node: they differ only by what is put into it.
        steps = [put[len(place)] for put in one.puts if len(put) > len(place) and put[:len(place)] == place]
        return any([_differ(one, place + (step,), other, inner + (step,)) for step in steps])
    sort = _common_sort(one, place, other, inner)
    if sort is None:
        return True
    if sort not in ("list", "dict"):
        return not _is_same_leaf(one, place, other, inner)
    step = one.step_behind(place, None)
    further = other.step_behind(inner, None)
    while step is not None and step == further:
        if _differ(one, place + (step,), other, inner + (step,)):
            return True
        step = one.step_behind(place, step)
        further = other.step_behind(inner, further)
    return step is not None or further is not None


def _common_sort(one, place, other, inner):
    """The sort of two parts, None if they are of unlike sorts."""
    for view, spot in ((one, place), (other, inner)):
        node = view.node(spot)
        if node[0] == "hole":
            view.demand(spot, ("is", node[1][0]))
    sorts = [sort_known(one.node(place)), sort_known(other.node(inner))]
    return sorts[0] if sorts[0] == sorts[1] else None


def _is_same_leaf(one, place, other, inner):
    for view, spot in ((one, place), (other, inner)):
        node = view.node(spot)
        if len(node[1]) > 1:
            view.demand(spot, ("equal", node[1][0]))
    return one.node(place)[1] == other.node(inner)[1]

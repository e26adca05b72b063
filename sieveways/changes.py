"""What the changes of data share: the parts that are changed, and the data behind single deeds.

What these functions return shares parts with what they are given; nothing here changes a list or dict in its place.
"""

from sieveways.data import found_part, is_small
from sieveways.errors import Fails, NoPart


def demand_small(datum):
    """Raises Fails if a datum that was made is too great."""
    if not is_small(datum):
        raise Fails("great")


def part_to_change(term, whole, place):
    """The part at a place as it is when its turn comes; raises Fails if nothing can be done there."""
    try:
        part = found_part(whole, place)
    except NoPart:
        raise Fails("lost") from None
    if term[0] == "add" and (not isinstance(part, dict) or term[2] in part):
        raise Fails("there")
    if term[0] == "append" and not isinstance(part, list):
        raise Fails("row")
    return part


def new_part_of(term):
    """The filter that is asked for what is put."""
    return ("none",) if term[0] == "drop" else term[-1]


def deed_at(term, place, part, new):
    """The deed by which a new datum is put at the place of a part."""
    if term[0] == "add":
        return ("add", place + (term[2],), new)
    if term[0] == "append":
        return ("add", place + (len(part),), new)
    return ("put", place, part, new)


def drop_at(whole, place):
    """The deed by which a noted place is dropped; raises Fails if it cannot be."""
    if not place:
        raise Fails("whole")
    try:
        return ("drop", place, found_part(whole, place))
    except NoPart:
        raise Fails("lost") from None


def places_to_drop(noted):
    """Noted places, each once, the greatest first."""
    return list(reversed(sorted(set(noted))))


def behind(whole, deed):
    """The datum behind a deed that fits it; raises Fails if it would be too great."""
    word, place = deed[:2]
    if word == "drop":
        return _rebuilt(whole, place, ())
    new = _rebuilt(whole, place, (deed[-1],))
    demand_small(new)
    return new


def inserted(whole, place, part):
    """The datum with one more element at a place, later elements of a list moving up; raises Fails if too great."""
    around = found_part(whole, place[:-1])
    if isinstance(around, dict):
        new = _rebuilt(whole, place, (part,))
    else:
        step = place[-1]
        new = _rebuilt(whole, place[:-1], (around[:step] + [part] + around[step:],))
    demand_small(new)
    return new


def _rebuilt(whole, place, told):
    """The datum with the one part that is told at a place, whether or not there was one, or without the place."""
    if not place:
        return told[0]
    step = place[0]
    if len(place) > 1:
        told = (_rebuilt(whole[step], place[1:], told),)
    if isinstance(whole, list):
        return [*whole[:step], *told, *whole[step + 1:]]
    new = {key: part for key, part in whole.items() if key != step}
    if told:
        new[step] = told[0]
    return new

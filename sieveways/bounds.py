"""Which changes may be exchanged, and what their choosers touch: shown by the least data where it is not so."""

from sieveways.choosers import demand_chooser
from sieveways.data import begins
from sieveways.hunts import DROP, FOUND, GO, Hunt, Splits
from sieveways.names import Names
from sieveways.patterns import covers_pattern, patterns_of
from sieveways.touching import touched_patterns


def exchanged(f, g):
    """None if changes by two choosers may be exchanged, otherwise what shows that they may not."""
    _demand_choosers(f, g)
    found = apart(f, g)
    if found is not None:
        return "meet", *found
    found = kept(f, g)
    if found is not None:
        return "first", *found
    found = kept(g, f)
    return None if found is None else ("second", *found)


def covers(one, other):
    """Whether each place that fits the other pattern is begun by one that fits the first one."""
    return covers_pattern(one, other)


def touched(f):
    """The patterns that places of a chooser fit, without those that another one covers."""
    demand_chooser(f)
    fitted = touched_patterns(f, patterns_of(f))
    left = [one for one in fitted if not [other for other in fitted if other != one and covers(other, one)]]
    return tuple(sorted(left, key=lambda pattern: (len(pattern), pattern)))


def apart(f, g):
    """The first datum on which neither fails and a place of one begins one of the other, None if there is none."""
    _demand_choosers(f, g)
    return _first_data(Hunt(Splits(Names((f, g))), (("ahead", f), ("ahead", g)), _judge_apart))


def single(f):
    """The first datum on which a place of a chooser begins another one of its row, None if there is none."""
    demand_chooser(f)
    return _first_data(Hunt(Splits(Names((f,))), (("ahead", f),), _judge_single))


def kept(f, g):
    """The first datum and row of data for f behind which g has another row, None if there is none."""
    _demand_choosers(f, g)
    stages = (("ahead", f), ("put", None), ("ahead", g), ("behind", g))
    return _with_row(Hunt(Splits(Names((f, g))), stages, _judge_kept))


def regained(f):
    """The first datum and row of data behind which these are not the outcomes, None if there is none."""
    demand_chooser(f)
    stages = (("ahead", f), ("put", None), ("behind", f), ("equal", None))
    # Two leaves of a sort may have to be unlike each other and all named ones.
    return _with_row(Hunt(Splits(Names((f,)), 2), stages, _judge_regained))


def _demand_choosers(f, g):
    demand_chooser(f)
    demand_chooser(g)


def _first_data(hunt):
    found = hunt.first()
    return None if found is None else tuple(found)


def _with_row(hunt):
    found = hunt.first()
    return None if found is None else (found[0], tuple(found[1:]))


def _judge_apart(rows, places, ends):
    if ends is False:
        return DROP
    if not rows or ends is None:
        return DROP if ends and not places else GO
    met = [place for place in places if [one for one in rows[0][0] if begins(one, place) or begins(place, one)]]
    return FOUND if met else DROP


def _judge_single(_, places, ends):
    if ends is None:
        return GO
    if ends is False:
        return DROP
    for number, place in enumerate(places):
        if [other for other in places[number + 1:] if begins(place, other) or begins(other, place)]:
            return FOUND
    return DROP


def _judge_changing(places, ends):
    """Judges the chooser whose places get new data: it must end, and have places."""
    if ends is None:
        return GO
    return GO if ends and places else DROP


def _judge_kept(rows, places, ends):
    if not rows:
        return _judge_changing(places, ends)
    if len(rows) == 1:
        return GO
    if places != rows[1][0][:len(places)]:
        return FOUND
    if ends is None:
        return GO
    return DROP if (places, ends) == rows[1] else FOUND


def _judge_regained(rows, places, ends):
    if not rows:
        return _judge_changing(places, ends)
    if ends is None:
        return GO if len(places) <= len(rows[0][0]) else FOUND
    return GO if ends and len(places) == len(rows[0][0]) else FOUND

"""Patterns of places: the steps that a chooser may take."""


def patterns_of(term):
    """All patterns of a chooser, each once."""
    word = term[0]
    if word in ("none", "fail"):
        return []
    if word == "same":
        return [()]
    if word in ("field", "item", "every"):
        return [(term,)]
    if word == "try":
        return patterns_of(term[1])
    if word == "pipe":
        further = patterns_of(term[2])
        return _each_once([one + other for one in patterns_of(term[1]) for other in further])
    return _each_once(patterns_of(term[-2]) + patterns_of(term[-1]))


def _each_once(patterns):
    return list({pattern: True for pattern in patterns})


def step_covers(one, other):
    """Whether a step of a pattern takes all that another one takes."""
    return one == ("every",) or one == other


def covers_pattern(one, other):
    """Whether each place that fits the other pattern is begun by one that fits the first one."""
    return len(one) <= len(other) and all([step_covers(step, further) for step, further in zip(one, other)])


def step_takes(step, key):
    """Whether a key or index fits a step of a pattern."""
    return step == ("every",) or step[1] == key


def fits(place, pattern):
    """Whether a place fits a pattern."""
    return len(place) == len(pattern) and all([step_takes(step, key) for step, key in zip(pattern, place)])


def leads(place, terms, pattern):
    """Whether terms, run one after the other from a place on, may come to a place that fits a pattern.

    Only the steps of the terms are looked at, not their tests.
    """
    if len(place) > len(pattern) or not fits(place, pattern[:len(place)]):
        return False
    levels = [len(place)]
    for term in terms:
        levels = _levels_behind(term, pattern, levels)
    return len(pattern) in levels


def _levels_behind(term, pattern, levels):
    """The levels of a pattern to which a chooser may lead from these levels, each once."""
    word = term[0]
    if word == "same":
        return levels
    if word in ("none", "fail") or not levels:
        return []
    if word == "try":
        return _levels_behind(term[1], pattern, levels)
    if word == "pipe":
        return _levels_behind(term[2], pattern, _levels_behind(term[1], pattern, levels))
    if word in ("field", "item", "every"):
        inner = [level for level in levels if level < len(pattern)]
        return [level + 1 for level in inner if step_covers(term, pattern[level]) or step_covers(pattern[level], term)]
    found = _levels_behind(term[-2], pattern, levels) + _levels_behind(term[-1], pattern, levels)
    return list({level: True for level in found})

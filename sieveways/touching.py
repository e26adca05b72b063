"""Which patterns of a chooser places of it fit on some datum.

For each pattern a way to a place that fits it is looked for by itself, and then a datum on which the outcomes ahead do
not fail. Both are found by deciding what is not known, one thing after the other. Where that leads to nothing, only
those decisions are taken back on which it hangs: so what does not matter is not tried in all its forms. Decisions are
numbered from 0, and several of them are told by an integer in which their bits are set.
"""

from sieveways.data import MOST_LEVELS, MOST_PARTS
from sieveways.following import begun, followed, taken_by, walked_by
from sieveways.hunts import Splits, State
from sieveways.known import WIDE_HOLE, node_at, parts_known
from sieveways.names import MOST_IN_GAP, Names
from sieveways.patterns import covers_pattern, fits, leads
from sieveways.views import Unsettled, View

SORT = ("sort",)


def touched_patterns(f, patterns):
    """The patterns that places of a chooser fit; those that one of these covers may be left out."""
    splits = Splits(Names((f,)))
    found = {}
    # The last one of several has most outcomes ahead of it, which are shown with it.
    for goal in sorted(list(reversed(patterns)), key=len):
        if not [one for one in found if covers_pattern(one, goal)]:
            for place in Search(splits, f, goal).found_places():
                for pattern in patterns:
                    if fits(place, pattern):
                        found[pattern] = True
    return list(found)


class WatchedView(View):
    """A view that keeps what was looked at: places, each with the word of the question that tells it, and a detail."""

    def __init__(self, names, sketch):
        super().__init__(names, (sketch,))
        self.seen = []

    def is_of(self, place, sort):
        """Whether the part at a place is of a sort."""
        self.seen.append((place, SORT))
        return super().is_of(place, sort)

    def has_index(self, place, index):
        """Whether the list at a place has an element with this index."""
        self.seen.append((place, ("more",)))
        return super().has_index(place, index)

    def has_key(self, place, key):
        """Whether the dict at a place has a key."""
        self.seen.append((place, ("key", key)))
        return super().has_key(place, key)

    def gap_keys(self, place, number):
        """The keys in a gap of the dict at a place."""
        self.seen.append((place, ("gap", number)))
        return super().gap_keys(place, number)


class Decision:
    """What may be so, in the order in which it is tried.

    `about` is the place with what is told of it, None for a choice of ways; `blamed` are the decisions on which it
    hangs that what was tried has led to nothing.
    """

    def __init__(self, about, options, blamed):
        self.about = about
        self.options = options
        self.blamed = blamed


class Way:
    """A single way of a chooser: the place to which it has come, and the terms that are to be run from there."""

    def __init__(self, sketch, place, terms):
        self.sketch = sketch
        self.place = place
        self.terms = terms


class Going:
    """A run of a chooser.

    `hangs` tells for each task the decisions by which it came, `blamed` those by which other tasks, that might have
    come to a place that fits the pattern, did not.
    """

    def __init__(self, sketch, run, hangs, blamed):
        self.sketch = sketch
        self.run = run
        self.hangs = hangs
        self.blamed = blamed


class Search:
    """A search for a datum on which a place of a chooser fits a pattern."""

    def __init__(self, splits, f, goal):
        self.splits = splits
        self.f = f
        self.goal = goal
        self.decisions = []
        self.shown = ()

    def found_places(self):
        """The places of the chooser up to one that fits the pattern, on some datum; none if there is none."""
        at = Way(WIDE_HOLE, (), (self.f,))
        while at is not None and not self.shown:
            try:
                at = self._on_the_way(at) if isinstance(at, Way) else self._going(at)
            except Unsettled as asked:
                at = self._decide_on(at, asked.place, asked.question)
        return self.shown

    def _on_the_way(self, way):
        """A way one term further; from its end on the chooser is run."""
        if not leads(way.place, way.terms, self.goal):
            return self._taken_back(self._all_decisions())
        if not way.terms:
            return Going(way.sketch, begun(self.f), (0,), 0)
        further = _further(View(self.splits.names, (way.sketch,)), way.place, way.terms, self.goal)
        if len(further) == 1:
            place, terms = further[0]
            return Way(way.sketch, place, terms)
        options = [Way(way.sketch, place, terms) for place, terms in further]
        return self._decided(Decision(None, options, self._all_decisions()))

    def _going(self, going):
        """A run one task further."""
        tasks, before, _ = going.run
        view = WatchedView(self.splits.names, going.sketch)
        run = followed(view, going.run)
        now, places, ends = run
        if len(places) > len(before) and fits(places[-1], self.goal):
            self.shown = places
            return None
        if ends:
            return self._taken_back(going.blamed)
        seen = going.hangs[-1] | self._decided_at(view.seen)
        if ends is False:
            return self._taken_back(going.blamed | seen)
        further = now[len(tasks) - 1:]
        hangs = (seen,) * len(further)
        blamed = going.blamed
        if self._may_come(tasks[-1:]):
            if not self._may_come(further):
                blamed = blamed | seen
                if not self._may_come(now):
                    return self._taken_back(blamed)
        elif len(further) > 1 and tasks[-1][1][0] == ("every",):
            # Whatever is ahead of an element, the every comes to it, and goes on behind it.
            hangs = (going.hangs[-1], seen)
        return Going(going.sketch, run, going.hangs[:-1] + hangs, blamed)

    def _may_come(self, tasks):
        return bool([task for task in tasks if leads(task[0], task[1], self.goal)])

    def _all_decisions(self):
        return (1 << len(self.decisions)) - 1

    def _decided_at(self, seen):
        """The decisions about what was looked at."""
        found = 0
        for number, decision in enumerate(self.decisions):
            if decision.about is not None and decision.about in seen:
                found = found | (1 << number)
        return found

    def _decide_on(self, at, place, question):
        """Decides what is not known."""
        word = question[0]
        states = self.splits.answered(State((at.sketch,), (), 0, (), None), (0, place, question))
        many = 1 + len(self.splits.names.gaps[question[1]]) if word == "gap" else 2
        blamed = 0 if len(states) == many else self._growing_decisions(at.sketch, place)
        is_every = isinstance(at, Going) and at.run[0][-1][1][0] == ("every",)
        # An every wants no more, a field and an item want what they look at to be there.
        if word in ("key", "more") and not is_every:
            states = list(reversed(states))
        sketches = [state.sketches[0] for state in states]
        if isinstance(at, Way):
            blamed = self._all_decisions()
            options = [Way(sketch, at.place, at.terms) for sketch in sketches]
        else:
            options = [Going(sketch, at.run, at.hangs, at.blamed) for sketch in sketches]
        return self._decided(Decision((place, SORT if word in ("is", "equal") else question), options, blamed))

    def _growing_decisions(self, sketch, place):
        """The decisions by which there is no room for more elements in the part at a place."""
        if len(place) + 2 > MOST_LEVELS or parts_known(sketch) + MOST_IN_GAP > MOST_PARTS:
            return self._all_decisions()
        # Unnamed elements were put in elsewhere.
        found = 0
        for number, decision in enumerate(self.decisions):
            if decision.about is not None and self._is_growing(sketch, *decision.about):
                found = found | (1 << number)
        return found

    def _is_growing(self, sketch, place, told):
        if told[0] == "gap":
            return bool(node_at(sketch, place)[2][told[1]])
        return told[0] == "more" and len(node_at(sketch, place)[1]) > self.splits.names.many

    def _decided(self, decision):
        """Decides on the first option."""
        self.decisions.append(decision)
        return self._tried()

    def _tried(self):
        """The next option of the last decision; where there is none, decisions ahead of it are taken back."""
        decision = self.decisions[-1]
        if decision.options:
            return decision.options.pop(0)
        self.decisions.pop()
        return self._taken_back(decision.blamed)

    def _taken_back(self, blamed):
        """The next option of the last one of these decisions; None if nothing is left to be tried."""
        while self.decisions:
            number = len(self.decisions) - 1
            decision = self.decisions[-1]
            if (blamed >> number) & 1:
                decision.blamed = decision.blamed | (blamed ^ (1 << number))
                if decision.options:
                    return decision.options.pop(0)
                blamed = decision.blamed
            self.decisions.pop()
        return None


def _further(view, place, terms, goal):
    """How a single way can go on: places, each with the terms that are still to be run from there."""
    term = terms[0]
    behind = terms[1:]
    word = term[0]
    if word in ("none", "fail"):
        return []
    if word == "every":
        return [(place, (step, *behind)) for step in _steps_of_every(view.names, goal[len(place)])]
    if word == "pipe":
        return [(place, (term[1], term[2], *behind))]
    if word == "both":
        return [(place, (term[1], *behind)), (place, (term[2], *behind))]
    if word == "if":
        return [(place, (taken_by(view, term, place), *behind))]
    gives, end = walked_by(view, term[1] if word in ("try", "other") else term, place)
    if gives:
        return [(end, behind)]
    return [(place, (term[2], *behind))] if word == "other" and gives is False else []


def _steps_of_every(names, step):
    """Steps to an element that is given by an every, where the place must fit a step of a pattern.

    Those come first that need least: an index needs all those ahead of it, of an unnamed key nothing else is asked.
    """
    if step != ("every",):
        return [step]
    gap = [gap for gap in names.gaps if gap][0]
    return [("field", gap[0]), *[("item", index) for index in range(names.many + 1)]]

"""Searches for the least data on which something is so, among thin data, those with the least completion first.

What is looked for is told by stages, which are gone through one after the other: ("ahead", f) follows f over the
datum, ("put", None) puts unknown data at the places of the first row, ("behind", f) follows f over what comes of it,
("equal", None) compares the outcomes there with the data that were put. After each outcome and each ending a judge is
asked with the rows so far, the places of the run in progress, and its ending, None if it goes on: GO, DROP or FOUND.
"""

from heapq import heappop, heappush

from sieveways.data import MOST_LEVELS, MOST_PARTS, order_key
from sieveways.following import begun, followed
from sieveways.known import (
    ABSENT, EMPTY_LIST, MOST_ENDS, WIDE_HOLE, closed, empty_dict, known_pairs, longer, node_at, parts_known, with_gap,
    with_key, with_node,
)
from sieveways.unlikeness import are_unlike
from sieveways.views import Unsettled, View

GO = "go"
DROP = "drop"
FOUND = "found"
ASK = "ask"
LEAST_LEAVES = {"null": None, "no": False, "yes": True, "number": 0, "text": ""}


def least_datum(node):
    """The first datum that is told by a node, in the order of data."""
    word = node[0]
    if word == "among":
        return node[1][0]
    if word == "hole":
        sort = node[1][0]
        if sort in LEAST_LEAVES:
            return LEAST_LEAVES[sort]
        return [] if sort == "list" else {}
    if word == "list":
        return [least_datum(part) for part in node[1]]
    return {key: least_datum(part) for key, part in known_pairs(node)}


def has_room(sketch, place):
    """Whether what a sketch tells is within the bounds of a datum, where it has elements in the part at a place."""
    return len(place) + 2 <= MOST_LEVELS and parts_known(sketch) <= MOST_PARTS


class State:
    """How far a search has come with some data: what is known of them, and where in the stages it is."""

    def __init__(self, sketches, puts, stage, found, run):
        self.sketches = sketches
        self.puts = puts
        self.stage = stage
        self.found = found
        self.run = run

    def with_sketch(self, number, sketch):
        """The same with more known of one of the data."""
        sketches = self.sketches[:number] + (sketch,) + self.sketches[number + 1:]
        return State(sketches, self.puts, self.stage, self.found, self.run)

    def key(self):
        """The least data that are told come in the order of these tuples."""
        datum, *row = [least_datum(sketch) for sketch in self.sketches]
        return order_key(datum), order_key(row)


class Splits:
    """What may be so where something is not known, for choosers that name this.

    `others` tells how many unnamed leaves of a sort may have to be told apart.
    """

    def __init__(self, names, others=1):
        self.names = names
        self.leaves = {
            "null": (None,), "no": (False,), "yes": (True,),
            "number": names.numbers_with_others(others), "text": names.texts_with_others(others),
        }

    def answered(self, state, asked):
        """The states with each answer to what is asked, those with data that are not thin, or too great, left out."""
        number, place, question = asked
        sketch = state.sketches[number]
        parts = self._parts(node_at(sketch, place), question, number)
        states = [state.with_sketch(number, with_node(sketch, place, part)) for part in parts]
        word = question[0]
        if word in ("is", "equal"):
            return states
        # The first answer puts nothing in.
        further = [one for one in states[1:] if has_room(one.sketches[number], place)]
        return states[:1] + [one for one in further if word == "key" or self._is_thin(one, number)]

    def _is_thin(self, state, number):
        if View(self.names, state.sketches, (), number).ends() > MOST_ENDS:
            return False
        if len(state.sketches) == 1:
            return True
        return View(self.names, state.sketches, state.found[0][0]).ends() <= MOST_ENDS

    def _parts(self, node, question, number):
        word = question[0]
        if word == "is":
            others = tuple([sort for sort in node[1] if sort != question[1]])
            return [self._of_sort(question[1]), ("hole", others) if len(others) > 1 else self._of_sort(others[0])]
        if word == "equal":
            return [("among", (question[1],)), ("among", tuple([x for x in node[1] if x != question[1]]))]
        if word == "more":
            return [closed(node), longer(node, WIDE_HOLE)]
        if word == "key":
            return [with_key(node, question[1], part) for part in (ABSENT, WIDE_HOLE)]
        keys = self.names.gaps[question[1]]
        told = [keys[:many] for many in range(len(keys) + 1)]
        if number and len(keys) > 1:
            # What is put may need the second key alone, where the datum has both.
            told.append(keys[1:])
        return [with_gap(node, question[1], some, WIDE_HOLE) for some in told]

    def _of_sort(self, sort):
        if sort == "list":
            return EMPTY_LIST
        return empty_dict(self.names) if sort == "dict" else ("among", self.leaves[sort])


class Hunt:
    """A search: its stages, its judge, and what may be so where something is not known."""

    def __init__(self, splits, stages, judge):
        self.splits = splits
        self.names = splits.names
        self.stages = stages
        self.judge = judge

    def start(self, hole):
        """The state in which nothing is known."""
        return State((hole,), (), 0, (), begun(self.stages[0][1]))

    def first(self):
        """The first data that are found, the datum ahead of those that were put into it; None if there are none."""
        start = self.start(WIDE_HOLE)
        queue = [(start.key(), 0, start)]
        many = 1
        while queue:
            _, _, state = heappop(queue)
            verdict, state, asked = self.pursued(state)
            if verdict == FOUND:
                return [least_datum(sketch) for sketch in state.sketches]
            if verdict == ASK:
                for further in self.splits.answered(state, asked):
                    heappush(queue, (further.key(), many, further))
                    many += 1
        return None

    def pursued(self, state):
        """Goes on until it is judged or something must be asked: (verdict, state, what is asked)."""
        verdict = GO
        while verdict == GO:
            try:
                verdict, state = self._stepped(state)
            except Unsettled as asked:
                return ASK, state, (asked.number, asked.place, asked.question)
        return verdict, state, None

    def _stepped(self, state):
        word = self.stages[state.stage][0]
        if word == "put":
            return self._put(state)
        behind = View(self.names, state.sketches, state.puts)
        if word == "equal":
            return (FOUND if are_unlike(behind, state.found[-1][0]) else DROP), state
        view = View(self.names, state.sketches) if word == "ahead" else behind
        before = len(state.run[1])
        run = followed(view, state.run)
        _, places, ends = run
        if len(places) == before and ends is None:
            return GO, State(state.sketches, state.puts, state.stage, state.found, run)
        judge = self.judge
        verdict = judge(state.found, places, ends)
        if ends is None:
            return verdict, State(state.sketches, state.puts, state.stage, state.found, run)
        return verdict, self._next_stage(state, state.found + ((places, ends),))

    def _next_stage(self, state, rows):
        number = state.stage + 1
        word, term = self.stages[number] if number < len(self.stages) else ("end", None)
        sketches = state.sketches
        if word == "put":
            sketches = sketches + (WIDE_HOLE,) * len(rows[0][0])
        return State(sketches, state.puts, number, rows, begun(term) if term else None)

    def _put(self, state):
        """Looks whether each place is there when its turn comes; otherwise putting fails, and nothing is shown."""
        puts = state.found[0][0]
        for number, place in enumerate(puts):
            view = View(self.names, state.sketches, puts[:number])
            for length in range(len(place)):
                if not view.has(place[:length], place[length]):
                    return DROP, state
        return GO, self._next_stage(State(state.sketches, puts, state.stage, state.found, None), state.found)

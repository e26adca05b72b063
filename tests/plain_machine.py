"""Machines told by the table of the document with generators, for comparison, and codes made at random."""

import random

from sieveways.choosers import holds
from sieveways.code import Code
from tests.plain_runs import Failing, FilterMaker, Limit, Plain


class PlainMachine(Plain):
    """One run of a code."""

    def __init__(self, rows, limit):
        Plain.__init__(self, limit)
        self.rows = rows

    def go(self, number, datum, kept, way, held):
        """Gives (datum, way, open choices) for each outcome."""
        while True:
            word, *told = self.rows[number]
            try:
                if word == "every":
                    steps = self.steps(datum)
                    for index, step in enumerate(steps):
                        self.note("part", step)
                        is_open = int(index + 1 < len(steps))
                        yield from self.go(number + 1, datum[step], kept, way + (index,), held + is_open)
                    if steps:
                        return
                    word = "none"
                elif word in ("field", "item"):
                    self.note(word, told[0])
                    datum = self.part(word, datum, told[0])
                elif word == "fail":
                    raise OwnFailing("fail")
            except OwnFailing as failing:
                if not kept or kept[0] != "shield":
                    raise Failing(str(failing)) from None
                word = "caught"
            if word == "give":
                yield datum, way, held
                return
            if word == "fork":
                self.note("branch", 0)
                yield from self.go(number + 1, datum, kept, way + (0,), held + 1)
                self.note("branch", 1)
                way += (1,)
                number = told[0]
                continue
            if word == "test":
                side = 0 if holds(told[0], datum) else 1
                self.note("branch", side)
                number = told[1] if side else number + 1
                continue
            if word == "none" and not kept:
                return
            if word in ("none", "caught"):
                _, number, datum = kept
                kept = None
                self.note("branch", 1)
                continue
            if word in ("shield", "guard"):
                kept = (word, told[0], datum)
            if word == "open" and kept:
                kept = None
                self.note("branch", 0)
            number = told[0] if word == "jump" else number + 1

    def steps(self, datum):
        if not isinstance(datum, (list, dict)):
            raise OwnFailing("every")
        return list(range(len(datum))) if isinstance(datum, list) else sorted(datum)

    def part(self, word, datum, step):
        if word == "field" and isinstance(datum, dict) and step in datum:
            return datum[step]
        if word == "item" and isinstance(datum, list) and step < len(datum):
            return datum[step]
        raise OwnFailing(word)


class OwnFailing(Exception):
    """A failing at the row at hand, not yet met or told."""


def plain_machine(rows, datum, limit=1000):
    """(outcomes with their ways, held choices and events so far, the ending, the failing, all events)."""
    machine = PlainMachine(rows, limit)
    found = []
    try:
        for row in machine.go(0, datum, None, (), 0):
            found.append((*row, len(machine.events)))
        return found, "done", None, tuple(machine.events)
    except Failing as failing:
        return found, "failing", str(failing), tuple(machine.events)
    except Limit:
        return found, "limit", None, tuple(machine.events)


class CodeMaker(FilterMaker):
    """Makes codes at random."""

    def rows(self, many):
        rows = [self.row(number, many) for number in range(many - 1)]
        return [*rows, self.random.choice([("give",)] * 4 + [("none",), ("fail",)])]

    def row(self, number, many):
        pick = self.random.choice
        word = pick("every every field item fork fork jump test shield shield guard guard open open give none fail".split())
        later = min(number + pick([1, 1, 2, 2, 3, 4, 6]), many - 1)
        if word in ("fork", "jump", "shield", "guard"):
            return (word, later)
        if word == "test":
            return (word, self.test(pick([1, 1, 4])), later)
        if word == "field":
            return (word, pick("ab"))
        return (word, pick([0, 1])) if word == "item" else (word,)


def random_codes(begin, end, most=12):
    """Codes with the randomness that made them."""
    for seed in range(begin, end):
        maker = CodeMaker(seed)
        yield Code(maker.rows(maker.random.randint(1, most))), maker.random


def random_choosers(begin, end, most=16):
    """Choosers made at random, with the randomness that made them."""
    for seed in range(begin, end):
        maker = FilterMaker(seed)
        yield maker.chooser(maker.random.randint(1, most)), random.Random(seed)

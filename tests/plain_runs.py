"""Runs told by the table of the document with generators, for comparison, and filters made at random."""

import random

from sieveways.choosers import holds
from sieveways.data import alike, comes_before, depth_of, is_datum, parts_of, part_at, sort_of, with_part, without
from sieveways.errors import NoPart, NoWay


class Failing(Exception):
    pass


class Limit(Exception):
    pass


class Plain:
    """One run, with its events."""

    def __init__(self, limit):
        self.limit = limit
        self.events = []

    def note(self, *event):
        if len(self.events) == self.limit:
            raise Limit
        self.events.append(event)

    def made(self, datum):
        if not is_datum(datum):
            raise Failing("great")
        self.note("made", sort_of(datum))
        return datum

    def run(self, term, datum, place, names, calls):
        """Gives (datum, place, way, open choices) for each outcome."""
        yield from getattr(self, f"run_{term[0]}")(term, datum, place, names, calls)

    def data(self, term, datum, names, calls):
        for found, _, way, held in self.run(term, datum, (), names, calls):
            yield found, way, held

    def run_same(self, term, datum, place, names, calls):
        yield datum, place, (), 0

    def run_field(self, term, datum, place, names, calls):
        self.note(*term)
        if not isinstance(datum, dict) or term[1] not in datum:
            raise Failing("field")
        yield datum[term[1]], place + (term[1],), (), 0

    def run_item(self, term, datum, place, names, calls):
        self.note(*term)
        if not isinstance(datum, list) or term[1] >= len(datum):
            raise Failing("item")
        yield datum[term[1]], place + (term[1],), (), 0

    def run_every(self, term, datum, place, names, calls):
        if not isinstance(datum, (list, dict)):
            raise Failing("every")
        steps = list(range(len(datum))) if isinstance(datum, list) else sorted(datum)
        for number, step in enumerate(steps):
            self.note("part", step)
            yield datum[step], place + (step,), (number,), int(number + 1 < len(steps))

    def run_none(self, term, datum, place, names, calls):
        yield from ()

    def run_fail(self, term, datum, place, names, calls):
        raise Failing("fail")
        yield

    def run_pipe(self, term, datum, place, names, calls):
        for found, inner, way, held in self.run(term[1], datum, place, names, calls):
            for last, end, further, more in self.run(term[2], found, inner, names, calls):
                yield last, end, way + further, held + more

    def run_both(self, term, datum, place, names, calls):
        for number in (0, 1):
            self.note("branch", number)
            for found, inner, way, held in self.run(term[1 + number], datum, place, names, calls):
                yield found, inner, (number,) + way, held + 1 - number

    def run_if(self, term, datum, place, names, calls):
        number = 0 if holds(term[1], datum) else 1
        self.note("branch", number)
        yield from self.run(term[2 + number], datum, place, names, calls)

    def run_try(self, term, datum, place, names, calls):
        try:
            found = [row[:2] for row in self.run(term[1], datum, place, names, calls)]
        except Failing:
            found = []
        self.note("branch", 0 if found else 1)
        for row in found:
            yield row + ((), 0)

    def run_other(self, term, datum, place, names, calls):
        found = [row[:2] for row in self.run(term[1], datum, place, names, calls)]
        self.note("branch", 0 if found else 1)
        if found:
            yield found[0] + ((), 0)
        else:
            yield from self.run(term[2], datum, place, names, calls)

    def run_leaf(self, term, datum, place, names, calls):
        yield term[1], (), (), 0

    def run_list(self, term, datum, place, names, calls):
        yield self.made([found for found, _, _ in self.data(term[1], datum, names, calls)]), (), (), 0

    def run_dict(self, term, datum, place, names, calls):
        for found, way, held in self.choices(term[1], datum, names, calls):
            yield self.made(found), (), way, held

    def choices(self, entries, datum, names, calls):
        if not entries:
            yield {}, (), 0
            return
        for found, way, held in self.choices(entries[:-1], datum, names, calls):
            for last, further, more in self.data(entries[-1][1], datum, names, calls):
                yield {**found, entries[-1][0]: last}, way + further, held + more

    def pair(self, term, datum, place, names, calls):
        for one, way, held in self.data(term[1], datum, names, calls):
            for other, further, more in self.data(term[2], datum, names, calls):
                yield self.made(self.reckoned(term[0], one, other)), (), way + further, held + more

    run_sum = run_less = run_product = run_alike = run_before = pair

    def reckoned(self, word, one, other):
        if word in ("alike", "before"):
            return {"alike": alike, "before": comes_before}[word](one, other)
        sorts = (sort_of(one), sort_of(other))
        if sorts == ("number", "number"):
            return {"sum": one + other, "less": one - other, "product": one * other}[word]
        if word == "sum" and sorts in (("text", "text"), ("list", "list")):
            return one + other
        if word == "sum" and sorts == ("dict", "dict"):
            return {**one, **other}
        raise Failing(word)

    def run_as(self, term, datum, place, names, calls):
        for found, way, held in self.data(term[1], datum, names, calls):
            self.note("bind", term[2])
            for last, further, more in self.data(term[3], datum, {**names, term[2]: found}, calls):
                yield last, (), way + further, held + more

    def run_name(self, term, datum, place, names, calls):
        yield names[term[1]], (), (), 0

    def run_when(self, term, datum, place, names, calls):
        for found, way, held in self.data(term[1], datum, names, calls):
            number = 0 if found is True else 1
            self.note("branch", number)
            for last, further, more in self.data(term[2 + number], datum, names, calls):
                yield last, (), way + further, held + more

    def run_catch(self, term, datum, place, names, calls):
        running = self.data(term[1], datum, names, calls)
        number = 0
        while True:
            try:
                found = next(running, None)
            except Failing as failing:
                reason = str(failing)
                break
            if found is None:
                return
            yield found[0], (), (0, number), 1
            number += 1
        self.note("branch", 1)
        for found, way, held in self.data(term[2], reason, names, calls):
            yield found, (), (1,) + way, held

    def one(self, term, datum, names, calls):
        found = []
        for row in self.data(term, datum, names, calls):
            if found:
                raise Failing("one")
            found.append(row[0])
        if not found:
            raise Failing("one")
        return found[0]

    def run_reduce(self, term, datum, place, names, calls):
        total = self.one(term[3], datum, names, calls)
        for found, _, _ in self.data(term[1], datum, names, calls):
            self.note("bind", term[2])
            total = self.one(term[4], total, {**names, term[2]: found}, calls)
        yield total, (), (), 0

    def run_first(self, term, datum, place, names, calls):
        for found, _, _ in self.data(term[1], datum, names, calls):
            yield found, (), (), 0
            return

    def run_take(self, term, datum, place, names, calls):
        number = 0
        if term[1]:
            for found, _, _ in self.data(term[2], datum, names, calls):
                yield found, (), (number,), int(number < term[1] - 1)
                number += 1
                if number == term[1]:
                    return

    def run_fails(self, term, datum, place, names, calls):
        try:
            for _ in self.data(term[1], datum, names, calls):
                pass
            told = False
        except Failing:
            told = True
        yield self.made(told), (), (), 0

    def run_def(self, term, datum, place, names, calls):
        inner = dict(calls)
        inner[term[1]] = ("def", term[2], term[3], names, inner)
        for found, way, held in self.data(term[4], datum, names, inner):
            yield found, (), way, held

    def run_call(self, term, datum, place, names, calls):
        self.note("call", term[1])
        word, parameters, body, outer, inner = calls[term[1]]
        if word == "def":
            handed = {name: ("handed", (), part, names, calls) for name, part in zip(parameters, term[2])}
            inner = {**inner, **handed}
        for found, way, held in self.data(body, datum, outer, inner):
            yield found, (), way, held

    def run_places(self, term, datum, place, names, calls):
        for _, found, way, held in self.run(term[1], datum, (), names, calls):
            yield self.made(list(found)), (), way, held

    def run_change(self, term, datum, place, names, calls):
        yield self.changed(term, datum, names, calls), (), (), 0

    run_drop = run_add = run_append = run_change

    def changed(self, term, datum, names, calls):
        found = [row[1] for row in self.run(term[1], datum, (), names, calls)]
        further = ("none",) if term[0] == "drop" else term[-1]
        noted = []
        for place in found:
            try:
                part = part_at(datum, place)
            except NoPart:
                raise Failing("lost") from None
            if term[0] == "add" and (not isinstance(part, dict) or term[2] in part):
                raise Failing("there")
            if term[0] == "append" and not isinstance(part, list):
                raise Failing("row")
            new = next(self.data(further, part, names, calls), None)
            if new is None:
                noted += [place] if term[0] in ("change", "drop") else []
                continue
            new = new[0]
            if term[0] == "add":
                new = {**part, term[2]: new}
            if term[0] == "append":
                new = part + [new]
            datum = with_part(datum, place, new)
            if parts_of(datum) > 1000 or depth_of(datum) > 60:
                raise Failing("great")
            self.note("put", place)
        for place in sorted(set(noted), reverse=True):
            if place == ():
                raise Failing("whole")
            try:
                datum = without(datum, place)
            except NoPart:
                raise Failing("lost") from None
            self.note("put", place)
        return datum


def plain_run(term, datum, limit=1000):
    """(outcomes with their ways, held choices and events so far, the ending, the failing, all events)."""
    plain = Plain(limit)
    rows = []
    try:
        for found, way, held in plain.data(term, datum, {}, {}):
            rows.append((found, way, held, len(plain.events)))
        return rows, "done", None, tuple(plain.events)
    except Failing as failing:
        return rows, "failing", str(failing), tuple(plain.events)
    except Limit:
        return rows, "limit", None, tuple(plain.events)


class FilterMaker:
    """Makes closed filters at random."""

    def __init__(self, seed):
        self.random = random.Random(seed)

    def walk(self, many):
        words = ["same", "field", "item", "none", "fail"] if many < 3 else ["pipe", "if"]
        return self.filled(self.random.choice(words), many, "walk")

    def chooser(self, many):
        words = ["same", "field", "item", "every", "every", "none", "fail"]
        if many > 2:
            words = ["pipe", "pipe", "both", "if", "try", "other"]
        return self.filled(self.random.choice(words), many, "chooser")

    def filled(self, word, many, kind):
        make = getattr(self, kind)
        half = max(1, (many - 1) // 2)
        if word == "field":
            return (word, self.random.choice("ab"))
        if word == "item":
            return (word, self.random.choice([0, 1]))
        if word in ("pipe", "both"):
            return (word, make(half), make(half))
        if word == "if":
            return (word, self.test(half), make(half), make(half))
        if word == "try":
            return (word, self.walk(many - 1))
        if word == "other":
            return (word, self.walk(half), make(half))
        return (word,)

    def test(self, many):
        if many > 2:
            return ("at", self.walk(many - 2), self.test(1))
        sorts = ["null", "no", "yes", "number", "text", "list", "dict"]
        return self.random.choice([("is", self.random.choice(sorts)), ("equal", self.random.choice([0, 1, "a", True]))])

    def filter(self, many, names=(), calls=()):
        """A filter with these names bound, and these calls, each with how many filters it takes."""
        pick = self.random.choice
        words = ["same", "every", "field", "item", "leaf", "leaf", "none", "fail"]
        words += ["name"] * 3 * bool(names) + ["call"] * 3 * bool(calls)
        if many > 2:
            words = (
                "pipe pipe pipe both both if try other list dict sum less product alike before as as when catch catch "
                "reduce first take fails def def places change change drop add append call"
            ).split()
        word = pick(words)
        if word == "call" and not calls:
            word = "both"
        return self.made(word, many, names, calls)

    def made(self, word, many, names, calls):
        pick = self.random.choice
        half = max(1, (many - 1) // 2)
        third = max(1, (many - 1) // 3)
        inner = lambda size=half, more=(), further=(): self.filter(size, names + more, calls + further)
        if word in ("pipe", "both", "sum", "less", "product", "alike", "before", "catch"):
            return (word, inner(), inner())
        if word == "leaf":
            return (word, pick([None, True, False, 0, 1, 2, -1, "a", "b", 10 ** 30]))
        if word == "name":
            return (word, pick(names))
        if word in ("list", "first", "fails"):
            return (word, inner(many - 1))
        if word == "if":
            return (word, self.test(third), inner(third), inner(third))
        if word == "other":
            return (word, self.walk(half), inner())
        if word == "dict":
            return (word, pick([(), (("b", inner(many - 1)),), (("b", inner()), ("a", inner()))]))
        if word == "as":
            name = pick(["x", "y"])
            return (word, inner(), name, inner(half, (name,)))
        if word == "when":
            return (word, inner(third), inner(third), inner(third))
        if word == "reduce":
            return (word, inner(third), "x", inner(third), inner(third, ("x",)))
        if word == "take":
            return (word, pick([0, 1, 2, 3]), inner(many - 1))
        if word == "places":
            return (word, self.chooser(many - 1))
        if word in ("change", "append"):
            return (word, self.chooser(half), inner())
        if word == "drop":
            return (word, self.chooser(many - 1))
        if word == "add":
            return (word, self.chooser(half), pick("abc"), inner())
        if word == "def":
            name = pick(["f", "g"])
            parameters = pick([(), ("u",), ("u", "f"), ("g",)])
            known = tuple(call for call in calls if call[0] not in parameters + (name,))
            body = self.filter(half, names, known + tuple(
                [(name, len(parameters))] * (name not in parameters)) + tuple((given, 0) for given in parameters))
            outer = tuple(call for call in calls if call[0] != name) + ((name, len(parameters)),)
            return (word, name, parameters, body, self.filter(half, names, outer))
        if word == "call":
            name, takes = pick(calls)
            return (word, name, tuple(inner(third) for _ in range(takes)))
        return self.filled(word, many, "walk")


class Led(Plain):
    """One way that is gone: what it leads to, told by the document."""

    def __init__(self, way, limit):
        Plain.__init__(self, limit)
        self.path = way
        self.at = 0

    def entry(self):
        if self.at == len(self.path):
            raise NoWay(self.at)
        self.at += 1
        return self.path[self.at - 1]

    def go(self, term, datum, place, names, calls):
        """(datum, place), or None if nothing is given; raises Failing."""
        action = getattr(self, f"go_{term[0]}", None)
        if action:
            return action(term, datum, place, names, calls)
        for row in self.run(term, datum, place, names, calls):
            return row[:2]
        return None

    def go_every(self, term, datum, place, names, calls):
        if not isinstance(datum, (list, dict)):
            raise Failing("every")
        number = self.entry()
        if number >= len(datum):
            raise NoWay(self.at - 1)
        step = (list(range(len(datum))) if isinstance(datum, list) else sorted(datum))[number]
        self.note("part", step)
        return datum[step], place + (step,)

    def go_both(self, term, datum, place, names, calls):
        number = self.entry()
        if number > 1:
            raise NoWay(self.at - 1)
        self.note("branch", number)
        return self.go(term[1 + number], datum, place, names, calls)

    def go_pipe(self, term, datum, place, names, calls):
        found = self.go(term[1], datum, place, names, calls)
        return found and self.go(term[2], *found, names, calls)

    def go_if(self, term, datum, place, names, calls):
        number = 0 if holds(term[1], datum) else 1
        self.note("branch", number)
        return self.go(term[2 + number], datum, place, names, calls)

    def go_other(self, term, datum, place, names, calls):
        found = next(self.run(term[1], datum, place, names, calls), None)
        self.note("branch", 0 if found else 1)
        return found[:2] if found else self.go(term[2], datum, place, names, calls)

    def go_dict(self, term, datum, place, names, calls):
        told = {}
        for key, inner in term[1]:
            found = self.go(inner, datum, (), names, calls)
            if found is None:
                return None
            told[key] = found[0]
        return self.made(told), ()

    def go_pair(self, term, datum, place, names, calls):
        one = self.go(term[1], datum, (), names, calls)
        other = one and self.go(term[2], datum, (), names, calls)
        return other and (self.made(self.reckoned(term[0], one[0], other[0])), ())

    go_sum = go_less = go_product = go_alike = go_before = go_pair

    def go_as(self, term, datum, place, names, calls):
        found = self.go(term[1], datum, (), names, calls)
        if found is None:
            return None
        self.note("bind", term[2])
        return self.go(term[3], datum, (), {**names, term[2]: found[0]}, calls)

    def go_when(self, term, datum, place, names, calls):
        found = self.go(term[1], datum, (), names, calls)
        if found is None:
            return None
        number = 0 if found[0] is True else 1
        self.note("branch", number)
        return self.go(term[2 + number], datum, (), names, calls)

    def go_catch(self, term, datum, place, names, calls):
        side = self.entry()
        if side > 1:
            raise NoWay(self.at - 1)
        wanted = self.entry() if side == 0 else None
        index = self.at - 1
        try:
            for number, row in enumerate(self.data(term[1], datum, names, calls)):
                if number == wanted:
                    return row[0], ()
        except Failing as failing:
            if side == 0:
                raise NoWay(index) from None
            self.note("branch", 1)
            return self.go(term[2], str(failing), (), names, calls)
        raise NoWay(index)

    def go_take(self, term, datum, place, names, calls):
        wanted = self.entry()
        index = self.at - 1
        if wanted >= term[1]:
            raise NoWay(index)
        many = 0
        try:
            for row in self.data(term[2], datum, names, calls):
                if many == wanted:
                    return row[0], ()
                many += 1
        except Failing:
            if many == wanted:
                raise
        raise NoWay(index)

    def go_def(self, term, datum, place, names, calls):
        inner = dict(calls)
        inner[term[1]] = ("def", term[2], term[3], names, inner)
        return self.go(term[4], datum, (), names, inner)

    def go_call(self, term, datum, place, names, calls):
        self.note("call", term[1])
        word, parameters, body, outer, inner = calls[term[1]]
        if word == "def":
            handed = {name: ("handed", (), part, names, calls) for name, part in zip(parameters, term[2])}
            inner = {**inner, **handed}
        return self.go(body, datum, (), outer, inner)

    def go_places(self, term, datum, place, names, calls):
        found = self.go(term[1], datum, (), names, calls)
        return found and (self.made(list(found[1])), ())


def plain_led(term, datum, way, limit=2000):
    """What a way leads to; raises NoWay."""
    going = Led(way, limit)
    try:
        found = going.go(term, datum, (), {}, {})
        told = ("outcome", found[0]) if found else ("none",)
    except Failing as failing:
        told = ("failing", str(failing))
    except Limit:
        return ("limit",)
    if going.at < len(way):
        raise NoWay(going.at)
    return told

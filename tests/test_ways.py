"""Promises 74 to 76: ways of outcomes, what ways lead to, and which choices of them are open."""

import copy
import inspect
import types
import unittest

from sieveways import ways as module
from sieveways.errors import InvalidDatum, InvalidFilter, InvalidLimit, NoWay
from sieveways.runs import Run, tell
from sieveways.ways import is_way, led, ways
from tests.plain_runs import plain_led, plain_run
from tests.test_runs import A, DATA, E, FAIL, I0, NONE, ONE, PLUS, S, TWO_AND_FAIL, X, YES, call, random_filters
from tests.values import any_values, nested, shown

TWO = ("both", ONE, ("leaf", 2))
# Each form that chooses, within others: a filter, a datum, and the ways with their outcomes.
CHOOSING = [
    (E, [7, 8], [((0,), 7), ((1,), 8)]),
    (E, {"b": 7, "a": 8}, [((0,), 8), ((1,), 7)]),
    (E, [], []),
    (("both", E, S), [7], [((0, 0), 7), ((1,), [7])]),
    (("both", ("both", S, S), NONE), 1, [((0, 0), 1), ((0, 1), 1)]),
    (("pipe", E, E), [[1, 2], [], [3]], [((0, 0), 1), ((0, 1), 2), ((2, 0), 3)]),
    (("as", TWO, "x", ("both", X, X)), 0, [((0, 0), 1), ((0, 1), 1), ((1, 0), 2), ((1, 1), 2)]),
    (("when", ("both", ("leaf", True), S), ("both", S, ONE), E), [5], [((0, 0), [5]), ((0, 1), 1), ((1, 0), 5)]),
    (("sum", TWO, TWO), 0, [((0, 0), 2), ((0, 1), 3), ((1, 0), 3), ((1, 1), 4)]),
    (("less", TWO, ONE), 0, [((0,), 0), ((1,), 1)]),
    (("product", ONE, TWO), 0, [((0,), 1), ((1,), 2)]),
    (("alike", TWO, ONE), 0, [((0,), True), ((1,), False)]),
    (("before", TWO, ONE), 0, [((0,), False), ((1,), False)]),
    (("dict", (("b", TWO), ("a", E))), [5], [((0, 0), {"a": 5, "b": 1}), ((1, 0), {"a": 5, "b": 2})]),
    (("dict", ()), 0, [((), {})]),
    (("if", ("is", "list"), E, FAIL), [5], [((0,), 5)]),
    (("other", NONE, E), [5, 6], [((0,), 5), ((1,), 6)]),
    (("other", I0, E), [5, 6], [((), 5)]),
    (("def", "f", ("u",), ("both", call("u"), S), call("f", E)), [5], [((0, 0), 5), ((1,), [5])]),
    (("places", ("both", E, S)), [5], [((0, 0), [0]), ((1,), [])]),
    (("take", 2, ("both", E, E)), [5], [((0,), 5), ((1,), 5)]),
    (("take", 5, E), [5, 6], [((0,), 5), ((1,), 6)]),
    (("take", 0, E), [5, 6], []),
    (("catch", TWO_AND_FAIL, ("both", S, ONE)), 0, [((0, 0), 1), ((0, 1), 2), ((1, 0), "fail"), ((1, 1), 1)]),
    (("catch", E, S), [5], [((0, 0), 5)]),
    (("take", 3, ("catch", TWO_AND_FAIL, S)), 0, [((0,), 1), ((1,), 2), ((2,), "fail")]),
    (("catch", ("take", 2, TWO_AND_FAIL), S), 0, [((0, 0), 1), ((0, 1), 2)]),
    (("pipe", ("take", 2, E), ("catch", E, ("both", S, S))), [[1], 2, 3],
     [((0, 0, 0), 1), ((1, 1, 0), "every"), ((1, 1, 1), "every")]),
]
# Filters without choices, on [[1, 2], [3]].
NO_CHOICES = [
    S, I0, ("try", I0), ("list", E), ("reduce", E, "x", ONE, X), ("first", E), ("fails", E), ("change", E, E),
    ("drop", E), ("append", S, ("both", E, E)), ("leaf", 3), ("pipe", I0, I0), ("if", YES, E, S),
]


class InterfaceTest(unittest.TestCase):
    def test_names_of_arguments(self):
        limit = inspect.Parameter("limit", inspect.Parameter.KEYWORD_ONLY, default=1000)
        for name, names in {"ways": ["term", "datum"], "led": ["term", "datum", "way"]}.items():
            *told, last = inspect.signature(getattr(module, name)).parameters.values()
            self.assertEqual([parameter.name for parameter in told], names)
            self.assertEqual(last, limit)
        self.assertEqual(list(inspect.signature(is_way).parameters), ["term", "datum", "way", "outcome"])
        for function in (ways, led, is_way):
            self.assertEqual(function.__module__, "sieveways.ways")

    def test_by_name(self):
        self.assertEqual(list(ways(term=E, datum=[5], limit=1)), [((0,), 5)])
        self.assertEqual(led(term=E, datum=[5], way=(0,), limit=1), ("outcome", 5))
        self.assertIs(is_way(term=E, datum=[5], way=(0,), outcome=5), True)
        self.assertRaises(TypeError, led, E, [5], (0,), 5)
        self.assertRaises(TypeError, ways, E, [5], 5)


class WaysTest(unittest.TestCase):
    def test_the_examples(self):
        both = ("both", E, ("pipe", A, E))
        self.assertEqual(list(ways(both, {"a": [1, 2]})), [((0, 0), [1, 2]), ((1, 0), 1), ((1, 1), 2)])
        self.assertEqual([led(both, {"a": [1, 2]}, (1, 1)), led(both, [3], (1,))], [("outcome", 2), ("failing", "field")])

    def test_each_form_that_chooses(self):
        for term, datum, told in CHOOSING:
            found = list(ways(term, datum))
            self.assertEqual(shown(found), shown(told), term)
            self.assertEqual([way for way, _ in found], sorted(way for way, _ in found))

    def test_all_else_has_no_choices(self):
        for term in NO_CHOICES:
            self.assertEqual([way for way, _ in ways(("both", term, term), [[1, 2], [3]])], [(0,), (1,)], term)

    def test_a_generator(self):
        told = ways(E, [1, 2])
        self.assertIsInstance(told, types.GeneratorType)
        self.assertEqual(next(told), ((0,), 1))
        endless = ("def", "f", (), ("both", S, ("pipe", PLUS, call("f"))), call("f"))
        told = ways(endless, 0, limit=2000)
        self.assertEqual([next(told)[1] for _ in range(5)], [0, 1, 2, 3, 4])

    def test_up_to_the_ending_and_to_each_limit(self):
        self.assertEqual(list(ways(TWO_AND_FAIL, 0)), [((0,), 1), ((1, 0), 2)])
        for term, _ in random_filters(6000, 6250):
            for datum in DATA:
                many = min(12, len(plain_run(term, datum, 40)[3]) + 2)
                for limit in [*range(many), 40]:
                    rows = plain_run(term, datum, limit)[0]
                    told = [(way, outcome) for outcome, way, _, _ in rows]
                    self.assertEqual(shown(list(ways(term, datum, limit=limit))), shown(told), (term, datum, limit))

    def test_no_way_begins_another_one(self):
        for term, _ in random_filters(6250, 6400):
            for datum in DATA:
                found = [way for way, _ in ways(term, datum, limit=60)]
                self.assertEqual(found, sorted(set(found)))
                for way, further in zip(found, found[1:]):
                    self.assertNotEqual(further[:len(way)], way)

    def test_what_is_told_is_new(self):
        datum = [[1], [2]]
        found = list(ways(E, datum))
        found[0][1].append(5)
        led(E, datum, (1,))[1].append(6)
        self.assertEqual(datum, [[1], [2]])
        first = list(ways(("as", S, "x", ("both", X, X)), [1]))
        first[0][1].append(5)
        self.assertEqual(first[1][1], [1])


class LedTest(unittest.TestCase):
    def no_way(self, term, datum, way, index):
        with self.assertRaises(NoWay) as caught:
            led(term, datum, way)
        self.assertEqual(shown(caught.exception.index), shown(index), (term, datum, way))
        self.assertIsInstance(caught.exception, LookupError)
        self.assertIs(is_way(term, datum, way, None), False)

    def test_each_way_that_is_told(self):
        for term, datum, told in CHOOSING:
            for way, outcome in told:
                self.assertEqual(shown(led(term, datum, way)), shown(("outcome", outcome)), term)
                self.assertIs(is_way(term, datum, way, outcome), True)
                self.no_way(term, datum, way + (0,), len(way))
                if way:
                    self.no_way(term, datum, way[:-1], len(way) - 1)

    def test_what_ways_lead_to(self):
        self.assertEqual(led(TWO_AND_FAIL, 0, (1, 1)), ("failing", "fail"))
        self.assertEqual(led(("both", FAIL, S), 5, (1,)), ("outcome", 5))
        self.assertEqual(led(("both", NONE, S), 5, (0,)), ("none",))
        self.assertEqual(led(("pipe", E, NONE), [5], (0,)), ("none",))
        self.assertEqual(led(NONE, 5, ()), ("none",))
        self.assertEqual(led(("try", I0), 5, ()), ("none",))
        self.assertEqual(led(("pipe", E, I0), [5], (0,)), ("failing", "item"))
        self.assertEqual(led(E, 5, ()), ("failing", "every"))
        self.assertEqual(led(("sum", TWO, ("leaf", "a")), 0, (1,)), ("failing", "sum"))
        self.assertEqual(led(("catch", FAIL, ("both", NONE, FAIL)), 0, (1, 0)), ("none",))
        self.assertEqual(led(("catch", FAIL, ("both", NONE, FAIL)), 0, (1, 1)), ("failing", "fail"))
        self.assertEqual(led(("take", 3, TWO_AND_FAIL), 0, (2,)), ("failing", "fail"))
        self.assertEqual(led(("take", 3, FAIL), 0, (0,)), ("failing", "fail"))
        self.assertEqual(led(("first", NONE), 0, ()), ("none",))

    def test_ways_behind_failings(self):
        term = ("both", ("both", ONE, FAIL), ("pipe", E, ("both", FAIL, S)))
        self.assertEqual([way for way, _ in ways(term, [7, 8])], [(0, 0)])
        self.assertEqual(led(term, [7, 8], (0, 1)), ("failing", "fail"))
        self.assertEqual(led(term, [7, 8], (1, 0, 0)), ("failing", "fail"))
        self.assertEqual(led(term, [7, 8], (1, 0, 1)), ("outcome", 7))
        self.assertEqual(led(term, [7, 8], (1, 1, 1)), ("outcome", 8))
        self.assertEqual(Run.from_way(term, [7, 8], (1, 0, 1)).ask(), ("failing", "fail"))

    def test_no_way(self):
        self.no_way(E, [], (), 0)
        self.no_way(E, [], (0,), 0)
        self.no_way(E, {}, (), 0)
        self.no_way(E, [1], (1,), 0)
        self.no_way(E, [1], (10 ** 99,), 0)
        self.no_way(E, [1], (0, 0, 0), 1)
        self.no_way(E, 3, (0,), 0)
        self.no_way(("both", S, S), 1, (2,), 0)
        self.no_way(("both", S, S), 1, (0, 5), 1)
        self.no_way(("both", S, ("both", S, S)), 1, (1,), 1)
        self.no_way(("pipe", E, E), [[1], []], (1, 0), 1)
        self.no_way(("pipe", E, E), [[1], []], (1,), 1)
        self.no_way(("pipe", E, E), [[1], 2], (1, 0), 1)
        self.no_way(("pipe", E, NONE), [1], (0, 0), 1)
        self.no_way(("sum", TWO, E), [1], (1, 1), 1)
        self.no_way(("take", 0, S), 1, (), 0)
        self.no_way(("take", 0, S), 1, (0,), 0)
        self.no_way(("take", 2, E), [1, 2, 3], (2,), 0)
        self.no_way(("take", 5, E), [1, 2, 3], (3,), 0)
        self.no_way(("take", 5, E), [1, 2, 3], (), 0)
        self.no_way(("take", 5, TWO_AND_FAIL), 0, (3,), 0)
        self.no_way(("take", 2, TWO_AND_FAIL), 0, (2,), 0)
        self.no_way(("catch", E, S), [1], (1,), 0)
        self.no_way(("catch", E, S), [1], (), 0)
        self.no_way(("catch", E, S), [1], (0,), 1)
        self.no_way(("catch", E, S), [1], (0, 1), 1)
        self.no_way(("catch", FAIL, S), [1], (0, 0), 1)
        self.no_way(("catch", FAIL, S), [1], (2,), 0)
        self.no_way(("catch", ("pipe", E, ("catch", E, E)), S), [[1]], (1,), 0)

    def test_any_value(self):
        odd = [[], [0], (True,), (False,), (-1,), (0, -1), (0, True), ("0",), (0, None), ((0,),), ([],), {}, "0", 0, None]
        for value in any_values() + odd:
            is_right = type(value) is tuple and all(type(entry) is int and entry >= 0 for entry in value)
            if not is_right:
                for term in (E, S, ("both", S, S)):
                    self.no_way(term, [1], value, 0)
            self.assertIs(is_way(E, [1], value, 1), value == (0,) and is_right)

    def test_limits(self):
        self.assertEqual(led(("pipe", E, E), [[1]], (0, 0), limit=1), ("limit",))
        self.assertEqual(led(("pipe", E, E), [[1]], (0, 0), limit=2), ("outcome", 1))
        self.assertEqual(led(("take", 3, E), [5, 6, 7], (2,), limit=2), ("limit",))
        self.assertEqual(led(("take", 3, E), [5, 6, 7], (2,), limit=3), ("outcome", 7))
        self.assertEqual(led(("both", S, S), 5, (0, 0), limit=0), ("limit",))
        self.assertEqual(led(S, 5, (), limit=0), ("outcome", 5))
        self.assertEqual(led(NONE, 5, (), limit=0), ("none",))
        # The elements ahead are not come to.
        self.assertEqual(led(E, list(range(50)), (49,), limit=1), ("outcome", 49))
        wait = ("def", "f", (), ("if", ("equal", 0), S, ("pipe", ("less", S, ONE), call("f"))), call("f"))
        self.assertEqual(led(wait, 400, ()), ("limit",))
        self.assertEqual(led(wait, 600, (), limit=2000), ("outcome", 600 - 600))
        self.assertIs(is_way(wait, 600, (), 0), True)
        self.assertIs(is_way(wait, 700, (), 0), False)
        count = ("def", "f", (), ("both", S, ("pipe", PLUS, call("f"))), call("f"))
        self.assertEqual(led(count, 0, (1,) * 600 + (0,), limit=2000), ("outcome", 600))

    def test_like_the_document(self):
        many = {}
        for term, random in random_filters(7000, 7300):
            for datum in DATA:
                found = {()}
                for _, way, _, _ in plain_run(term, datum, 60)[0][:4]:
                    found |= {way, way[:-1], way + (0,), (0,) + way}
                    found |= {way[:at] + (entry,) + way[at + 1:] for at in range(len(way)) for entry in (0, 1, 2, way[at] + 1)}
                    found |= {way[:at] + way[at + 1:] for at in range(len(way))}
                    found |= {way[:at] + (random.choice([0, 1]),) + way[at:] for at in range(len(way))}
                found |= {tuple(random.choice([0, 0, 1, 2]) for _ in range(random.choice([1, 2, 3]))) for _ in range(3)}
                for way in sorted(found):
                    for limit in (0, 1, 2, random.choice([3, 4, 5]), 60):
                        word = self.check_way(term, datum, way, limit)
                        many[word] = many.get(word, 0) + 1
        for word in ("outcome", "failing", "none", "limit", "no way"):
            self.assertGreater(many[word], 200)

    def check_way(self, term, datum, way, limit):
        try:
            told = plain_led(term, datum, way, limit)
        except NoWay as caught:
            with self.assertRaises(NoWay) as error:
                led(term, datum, way, limit=limit)
            self.assertEqual(error.exception.index, caught.index, (term, datum, way))
            return "no way"
        self.assertEqual(shown(led(term, datum, way, limit=limit)), shown(told), (term, datum, way, limit))
        return told[0]

    def test_a_run_gives_what_its_ways_lead_to(self):
        for term, _ in random_filters(7300, 7450):
            for datum in DATA:
                rows = list(ways(term, datum, limit=60))
                for way, outcome in rows[:6]:
                    self.assertEqual(shown(led(term, datum, way, limit=2000)), shown(("outcome", outcome)), (term, datum, way))
                    self.assertIs(is_way(term, datum, way, outcome), True)


class IsWayTest(unittest.TestCase):
    def test_sorts_are_told_apart(self):
        values = [None, True, False, 0, 1, "", "0", "1", [], {}, [1], [True], {"a": 1}, {"a": True}]
        for one in values:
            for other in values:
                self.assertIs(is_way(I0, [one], (), other), shown(one) == shown(other), (one, other))
        self.assertIs(is_way(S, {"a": 1, "b": 2}, (), {"b": 2, "a": 1}), True)

    def test_any_outcome(self):
        for value in any_values():
            self.assertIs(is_way(S, {}, (), value), type(value) is dict and not value)
            self.assertIs(is_way(S, [], (), value), type(value) is list and not value)

    def test_other_endings(self):
        self.assertIs(is_way(FAIL, 1, (), "fail"), False)
        self.assertIs(is_way(NONE, 1, (), None), False)
        self.assertIs(is_way(E, [], (), None), False)


class HeldTest(unittest.TestCase):
    def held_by_the_way(self, term, datum, way):
        """How many choices are open, told by the table of the document alone."""
        return [row[2] for row in plain_run(term, datum, 60)[0] if row[1] == way]

    def test_each_form_that_chooses(self):
        told = {0: [1, 0], 3: [1, 0], 5: [2, 1, 0], 7: [2, 1, 0], 20: [1, 0], 21: [1, 1], 23: [1, 1, 1, 0], 24: [1]}
        for index, many in told.items():
            term, datum, _ = CHOOSING[index]
            run = Run(term, datum)
            found = []
            while run.ask()[0] == "outcome":
                found.append(run.held)
            self.assertEqual(found, many, term)

    def test_by_the_ways_alone(self):
        for term, _ in random_filters(7450, 7600):
            for datum in DATA:
                run = Run(term, datum, limit=60)
                while run.ask()[0] == "outcome":
                    self.assertEqual([run.held], self.held_by_the_way(term, datum, run.way))
                    behind = Run.from_way(term, datum, run.way, limit=60)
                    self.assertEqual((behind.held, behind.way), (0, None))
                    if run.held == 0:
                        self.assertNotEqual(behind.ask()[0], "outcome")

    def test_more_and_more_to_hold(self):
        count = ("def", "f", (), ("both", S, ("pipe", PLUS, call("f"))), call("f"))
        ahead = ("def", "f", (), ("both", ("pipe", PLUS, call("f")), S), ("pipe", ("leaf", 0), call("f")))
        run = Run(count, 0, limit=2000)
        for _ in range(200):
            run.ask()
            self.assertEqual(run.held, 1)
        self.assertEqual(tell(ahead, 0, limit=200).outcomes, ())


class WrongTest(unittest.TestCase):
    def calls(self, term, datum, limit):
        """Each function with these arguments, as functions of no arguments."""
        yield lambda: list(ways(term, datum, limit=limit))
        yield lambda: led(term, datum, None, limit=limit)
        if limit == 5:
            yield lambda: is_way(term, datum, None, None)

    def check(self, error, value, *arguments):
        for function in self.calls(*arguments):
            with self.assertRaises(error) as caught:
                function()
            self.assertIs(caught.exception.__class__, error)
            self.assertEqual(shown(list(vars(caught.exception).values())), shown([value]))

    def test_errors_in_order(self):
        for value in [None, 1, "same", ["same"], (), ("same", 1), ("name", "x"), ("call", "f", ()), [S], nested(41, lambda inner: ("first", inner), S)]:
            self.check(InvalidFilter, value, value, (), 5)
            self.check(InvalidFilter, value, value, (), None)
        for value in [(), {1: 2}, "%", 10 ** 31, [()], nested(61)]:
            self.check(InvalidDatum, value, S, value, 5)
            self.check(InvalidDatum, value, S, value, -1)
        for value in [None, True, -1, 2001, "5", 10 ** 99, (5,), []]:
            self.check(InvalidLimit, value, S, [], value)

    def test_errors_come_when_the_iteration_begins(self):
        told = ways(None, None)
        self.assertRaises(InvalidFilter, next, told)

    def test_arguments_stay_as_they_were(self):
        datum = {"b": [[1], 2], "a": {"c": []}}
        before = copy.deepcopy(datum)
        for term in (("change", ("field", "b"), ("leaf", 1)), ("both", E, S), ("drop", ("field", "a"))):
            list(ways(term, datum))
            led(("both", term, S), datum, (0, 1) if term[0] == "both" else (0,))
            self.assertEqual(shown(datum), shown(before))
            self.assertEqual(list(datum), ["b", "a"])


if __name__ == "__main__":
    unittest.main()

"""Promises 20, 21, 70 to 76: what runs of filters give, told whole, outcome by outcome, and behind a way."""

import inspect
import types
import unittest

from sieveways import runs as module
from sieveways.data import is_datum
from sieveways.errors import InvalidCount, InvalidDatum, InvalidFilter, InvalidLimit, NoWay
from sieveways.filters import is_closed, is_filter
from sieveways.runs import Run, tell
from tests.plain_runs import FilterMaker, plain_led, plain_run
from tests.test_filters import FILTERS, NO_FILTERS, TESTS, tree
from tests.values import any_values, nested, shown

S = ("same",)
A = ("field", "a")
B = ("field", "b")
E = ("every",)
NONE = ("none",)
FAIL = ("fail",)
X = ("name", "x")
I0, I1, I2 = ("item", 0), ("item", 1), ("item", 2)
ONE = ("leaf", 1)
PLUS = ("sum", S, ONE)
YES = ("is", "yes")
# Gives 1, then 2, then fails.
TWO_AND_FAIL = ("both", ONE, ("both", ("leaf", 2), FAIL))
DATA = [None, True, 1, "a", [], [1, 2], [0, [1], {"a": 2}], {"a": 1}, {"a": {"b": [1, 2]}, "b": [3, {"a": 0}]},
        [[1, 2], [3]], {"a": [{"b": 1}, {"b": 2}]}]


def call(name, *handed):
    return ("call", name, handed)


def branch(number):
    return ("branch", number)


def random_filters(begin, end, most=40):
    for seed in range(begin, end):
        maker = FilterMaker(seed)
        term = maker.filter(maker.random.randint(3, most))
        if is_filter(term):
            yield term, maker.random


class InterfaceTest(unittest.TestCase):
    def test_names_of_arguments(self):
        limit = inspect.Parameter("limit", inspect.Parameter.KEYWORD_ONLY, default=1000)
        for function, names in ((tell, ["term", "datum"]), (Run, ["term", "datum"]), (Run.from_way, ["term", "datum", "way"])):
            *told, last = inspect.signature(function).parameters.values()
            self.assertEqual([parameter.name for parameter in told], names)
            self.assertEqual(last, limit)
        self.assertEqual(list(inspect.signature(Run.take).parameters), ["self", "number"])
        for name in ("ask", "rest", "copy"):
            self.assertEqual(list(inspect.signature(getattr(Run, name)).parameters), ["self"])
        for name in ("ask", "take", "rest", "copy", "__len__", "from_way", "events", "way", "held"):
            self.assertIn(name, vars(Run))
        for owner in (tell, Run, type(tell(S, 1))):
            self.assertEqual(owner.__module__, "sieveways.runs")
        self.assertTrue(hasattr(module, "Telling"))

    def test_by_name(self):
        self.assertEqual(tell(term=S, datum=1, limit=0).outcomes, (1,))
        self.assertEqual(Run(term=S, datum=1, limit=5).take(number=3), [1])
        self.assertEqual(Run.from_way(term=E, datum=[1, 2], way=(0,), limit=1).take(1), [2])
        self.assertRaises(TypeError, tell, S, 1, 5)


class FormsTest(unittest.TestCase):
    def check(self, term, datum, outcomes, events, failure=None, limit=1000):
        told = tell(term, datum, limit=limit)
        self.assertEqual(shown(told.outcomes), shown(tuple(outcomes)), term)
        self.assertEqual(told.events, tuple(events))
        self.assertEqual((told.ending, told.failure), ("done" if failure is None else "failing", failure))

    def gives(self, term, datum, *outcomes, failure=None):
        told = tell(term, datum)
        self.assertEqual(shown(told.outcomes), shown(outcomes), term)
        self.assertEqual((told.ending, told.failure), ("done" if failure is None else "failing", failure))

    def test_same_none_fail_and_leaf(self):
        self.check(S, [1], [[1]], [])
        self.check(NONE, [1], [], [])
        self.check(FAIL, [1], [], [], "fail")
        for leaf in (None, True, False, 0, "a"):
            self.check(("leaf", leaf), [1], [leaf], [])

    def test_field_and_item(self):
        self.check(A, {"a": [2]}, [[2]], [A])
        self.check(A, {"b": 2}, [], [A], "field")
        self.check(A, ["a"], [], [A], "field")
        self.check(I1, [1, 2], [2], [I1])
        self.check(I1, [1], [], [I1], "item")
        self.check(I1, {"a": 1}, [], [I1], "item")
        self.check(I0, "abc", [], [I0], "item")

    def test_every(self):
        self.check(E, [5, 6], [5, 6], [("part", 0), ("part", 1)])
        self.check(E, {"b": 1, "a": 2}, [2, 1], [("part", "a"), ("part", "b")])
        self.check(E, [], [], [])
        self.check(E, {}, [], [])
        self.check(E, 3, [], [], "every")

    def test_pipe(self):
        self.check(("pipe", E, I0), [[1], [2]], [1, 2], [("part", 0), I0, ("part", 1), I0])
        self.check(("pipe", E, I0), [[1], 2, [3]], [1], [("part", 0), I0, ("part", 1), I0], "item")
        self.check(("pipe", TWO_AND_FAIL, ("both", S, S)), 0, [1, 1, 2, 2], [
            branch(0), branch(0), branch(1), branch(1), branch(0), branch(0), branch(1), branch(1)], "fail")
        self.check(("pipe", NONE, FAIL), 0, [], [])

    def test_both(self):
        self.check(("both", A, B), {"a": 1, "b": 2}, [1, 2], [branch(0), A, branch(1), B])
        self.check(("both", ("both", S, NONE), S), 0, [0, 0], [branch(0), branch(0), branch(1), branch(1)])
        self.check(("both", A, B), {"b": 2}, [], [branch(0), A], "field")
        self.check(("both", B, A), {"b": 2}, [2], [branch(0), B, branch(1), A], "field")

    def test_if(self):
        self.check(("if", YES, A, S), 5, [5], [branch(1)])
        self.check(("if", ("at", A, YES), A, S), {"a": True}, [True], [branch(0), A])
        self.check(("if", ("at", A, YES), FAIL, NONE), [], [], [branch(1)])

    def test_try_and_other(self):
        self.check(("try", A), {"a": 1}, [1], [A, branch(0)])
        self.check(("try", A), {}, [], [A, branch(1)])
        self.check(("try", NONE), {}, [], [branch(1)])
        self.check(("try", ("pipe", A, FAIL)), {"a": 1}, [], [A, branch(1)])
        self.check(("try", ("if", YES, S, A)), {"a": 2}, [2], [branch(1), A, branch(0)])
        self.check(("other", A, ("both", S, S)), {"a": 1}, [1], [A, branch(0)])
        self.check(("other", NONE, ("both", S, S)), 4, [4, 4], [branch(1), branch(0), branch(1)])
        self.check(("other", A, S), 4, [], [A], "field")
        self.check(("pipe", ("try", A), FAIL), {"a": 1}, [], [A, branch(0)], "fail")
        self.check(("pipe", E, ("try", I0)), [[1], 2, [3]], [1, 3], [
            ("part", 0), I0, branch(0), ("part", 1), I0, branch(1), ("part", 2), I0, branch(0)])

    def test_list(self):
        self.check(("list", E), [3, 4], [[3, 4]], [("part", 0), ("part", 1), ("made", "list")])
        self.check(("list", NONE), 3, [[]], [("made", "list")])
        self.check(("list", TWO_AND_FAIL), 3, [], [branch(0), branch(1), branch(0), branch(1)], "fail")
        self.check(("pipe", ("list", E), E), [3], [3], [("part", 0), ("made", "list"), ("part", 0)])

    def test_dict(self):
        self.check(("dict", ()), 1, [{}], [("made", "dict")])
        made = ("made", "dict")
        self.check(("dict", (("b", E), ("a", E))), [1, 2], [
            {"b": 1, "a": 1}, {"b": 1, "a": 2}, {"b": 2, "a": 1}, {"b": 2, "a": 2},
        ], [("part", 0), ("part", 0), made, ("part", 1), made, ("part", 1), ("part", 0), made, ("part", 1), made])
        self.check(("dict", (("b", E), ("a", NONE))), [1, 2], [], [("part", 0), ("part", 1)])
        self.check(("dict", (("b", E), ("a", TWO_AND_FAIL))), [7], [{"b": 7, "a": 1}, {"b": 7, "a": 2}], [
            ("part", 0), branch(0), made, branch(1), branch(0), made, branch(1)], "fail")
        self.check(("dict", (("b", NONE), ("a", FAIL))), 1, [], [])

    def test_the_second_filter_is_run_anew_at_each_outcome_of_the_first_one(self):
        for word, outcomes in (("sum", [2, 3, 3, 4]), ("less", [0, -1, 1, 0]), ("product", [1, 2, 2, 4]),
                               ("alike", [True, False, False, True]), ("before", [False, True, False, False])):
            sorts = [{True: "yes", False: "no"}.get(out if out is True or out is False else None, "number") for out in outcomes]
            told = [("part", 0)]
            for index in range(4):
                told += [("part", 1)] * (index == 2) + [("part", index % 2), ("made", sorts[index])]
            self.check((word, E, E), [1, 2], outcomes, told)
            self.check((word, E, NONE), [1, 2], [], [("part", 0), ("part", 1)])
            self.check((word, NONE, FAIL), [1, 2], [], [])
            self.check((word, ONE, TWO_AND_FAIL), 0, [reckoned for reckoned in outcomes[:2]], [
                branch(0), ("made", sorts[0]), branch(1), branch(0), ("made", sorts[1]), branch(1)], "fail")

    def test_reckoning(self):
        for word, one, other, told in (
            ("sum", 2, 3, 5), ("sum", "ab", "c", "abc"), ("sum", "", "", ""), ("less", 2, 3, -1), ("product", -2, 3, -6),
            ("alike", 1, True, False), ("alike", 0, False, False), ("alike", "1", 1, False), ("alike", None, None, True),
            ("before", None, False, True), ("before", 1, -1, True), ("before", True, 0, True), ("before", "b", "aa", True),
            ("sum", 10 ** 30, 0, 10 ** 30), ("less", 10 ** 30, 10 ** 30, 0), ("sum", 10 ** 30, -1, 10 ** 30 - 1),
            ("product", 10 ** 15, -(10 ** 15), -(10 ** 30)), ("less", 0, 10 ** 30, -(10 ** 30)),
        ):
            term = (word, ("leaf", one), ("leaf", other))
            sort = {bool: "yes" if told is True else "no", int: "number", str: "text"}[type(told)]
            self.check(term, None, [told], [("made", sort)])
        self.gives(("sum", I0, I1), [[1], [2, [3]]], [1, 2, [3]])
        self.gives(("sum", I0, I1), [{"a": 1, "b": 2}, {"b": 3, "c": 4}], {"a": 1, "b": 3, "c": 4})
        self.gives(("alike", I0, I1), [{"a": 1, "b": [True]}, {"b": [True], "a": 1}], True)
        self.gives(("alike", I0, I1), [[1], [True]], False)
        self.gives(("before", I0, I1), [[[]], {"a": 1}], True)
        for word in ("sum", "less", "product"):
            for pair in ([1, True], [True, True], [None, None], [1, "1"], ["a", ["a"]], [[1], {"a": 1}], [False, 0]):
                self.check((word, I0, I1), pair, [], [I0, I1], word)
        for word in ("less", "product"):
            for pair in (["a", "b"], [[1], []], [{}, {}]):
                self.check((word, I0, I1), pair, [], [I0, I1], word)

    def test_what_is_too_great(self):
        great = ("leaf", 10 ** 30)
        self.check(("sum", great, ONE), 0, [], [], "great")
        self.check(("less", ("leaf", -(10 ** 30)), ONE), 0, [], [], "great")
        self.check(("product", great, great), 0, [], [], "great")
        self.check(("product", ("leaf", 10 ** 15 + 1), ("leaf", 10 ** 15)), 0, [], [], "great")
        self.gives(("sum", ("leaf", "a" * 150), ("leaf", "b" * 50)), 0, "a" * 150 + "b" * 50)
        self.check(("sum", ("leaf", "a" * 150), ("leaf", "b" * 51)), 0, [], [], "great")
        half = [0] * 499
        self.gives(("sum", I0, I0), [half], half * 2)
        wide = [[0] * 333, [0] * 333, [0] * 330]
        self.gives(("list", E), wide, wide)
        self.gives(("sum", S, ("list", ("leaf", 0))), [0] * 998, [0] * 999)
        self.gives(("sum", S, ("list", ("leaf", 0))), [0] * 999, failure="great")
        self.gives(("list", S), [0] * 998, [[0] * 998])
        self.gives(("list", S), [0] * 999, failure="great")
        self.gives(("dict", (("a", S),)), [0] * 998, {"a": [0] * 998})
        self.gives(("dict", (("a", S),)), [0] * 999, failure="great")
        self.gives(("dict", (("a", S), ("b", S))), [0] * 500, failure="great")
        keys = [one + other for one in "abcdefghijklmnopqrstuvwxyz" for other in "abcdefghijklmnopqrstuvwxyz"]
        first, second = {key: 0 for key in keys[:500]}, {key: [] for key in keys[499:]}
        self.gives(("sum", I0, I1), [first, second], {**first, **second})
        deep = nested(60)
        for term in (("list", S), ("dict", (("a", S),))):
            self.gives(term, deep, failure="great")
            self.gives(term, nested(59), *tell(term, nested(59)).outcomes)
            self.assertEqual(len(tell(term, nested(59)).outcomes), 1)
        self.gives(("list", ("pipe", E, E)), nested(60), [nested(58)])
        self.check(("list", S), deep, [], [], "great")
        # A list is looked at behind all outcomes of its filter.
        told = tell(("list", ("pipe", ("both", E, E), S)), [0] * 600, limit=2000)
        self.assertEqual((told.failure, len(told.events)), ("great", 1202))

    def test_as_and_name(self):
        self.check(("as", E, "x", ("sum", X, ("name", "x"))), [1, 2], [2, 4], [
            ("part", 0), ("bind", "x"), ("made", "number"), ("part", 1), ("bind", "x"), ("made", "number")])
        self.check(("as", TWO_AND_FAIL, "x", ("both", X, S)), 9, [1, 9, 2, 9], [
            branch(0), ("bind", "x"), branch(0), branch(1), branch(1), branch(0), ("bind", "x"), branch(0), branch(1),
            branch(1)], "fail")
        self.gives(("as", NONE, "x", FAIL), 1)
        self.gives(("as", ONE, "x", ("as", ("leaf", 2), "y", ("list", ("both", X, ("name", "y"))))), 0, [1, 2])

    def test_names_that_hide_names(self):
        self.gives(("as", ONE, "x", ("as", ("leaf", 2), "x", X)), 0, 2)
        self.gives(("as", ONE, "x", ("both", ("as", ("sum", X, X), "x", X), X)), 0, 2, 1)
        self.gives(("as", ONE, "x", ("reduce", E, "x", X, ("sum", S, X))), [5, 6], 12)
        self.gives(("def", "f", (), ONE, ("def", "f", (), ("leaf", 2), call("f"))), 0, 2)
        self.gives(("def", "f", (), ONE, ("both", ("def", "f", (), ("leaf", 2), call("f")), call("f"))), 0, 2, 1)
        self.gives(("def", "f", ("f",), call("f"), call("f", ONE)), 0, 1)
        self.gives(("def", "g", (), ONE, ("def", "f", ("g",), call("g"), call("f", ("leaf", 2)))), 0, 2)
        self.gives(("as", ONE, "f", ("def", "f", (), ("name", "f"), ("as", ("leaf", 2), "f", call("f")))), 0, 1)

    def test_when(self):
        self.check(("when", E, ("leaf", "yes"), ("leaf", "no")), [True, False, 1, None], ["yes", "no", "no", "no"], [
            ("part", 0), branch(0), ("part", 1), branch(1), ("part", 2), branch(1), ("part", 3), branch(1)])
        self.check(("when", TWO_AND_FAIL, FAIL, S), 7, [7, 7], [
            branch(0), branch(1), branch(1), branch(0), branch(1), branch(1)], "fail")
        self.gives(("when", ("leaf", True), ("both", S, S), FAIL), 3, 3, 3)

    def test_catch(self):
        self.check(("catch", TWO_AND_FAIL, S), 0, [1, 2, "fail"], [branch(0), branch(1), branch(0), branch(1), branch(1)])
        self.check(("catch", E, FAIL), [1, 2], [1, 2], [("part", 0), ("part", 1)])
        self.check(("catch", ("catch", FAIL, A), S), 0, ["field"], [branch(1), A, branch(1)])
        self.check(("catch", NONE, FAIL), 0, [], [])

    def test_catch_of_each_word(self):
        for term, datum, word in (
            (FAIL, 0, "fail"), (A, 0, "field"), (I0, 0, "item"), (E, 0, "every"), (("sum", S, ONE), "a", "sum"),
            (("less", S, S), "a", "less"), (("product", S, S), "a", "product"), (("list", S), nested(60), "great"),
            (("reduce", E, "x", NONE, S), [1], "one"), (("change", ("both", E, E), NONE), [1], None),
            (("drop", S), 0, "whole"), (("add", S, "a", S), {"a": 1}, "there"), (("append", S, S), {}, "row"),
            (("change", ("both", A, ("pipe", A, B)), ONE), {"a": {"b": 2}}, "lost"), (("sum", ("leaf", 10 ** 30), ONE), 0, "great"),
        ):
            if word is not None:
                self.gives(term, datum, failure=word)
                self.gives(("catch", term, S), datum, word)
                self.gives(("fails", term), datum, True)
                self.gives(("catch", ("pipe", ("both", S, term), ("leaf", 0)), S), datum, 0, *tell(
                    ("pipe", term, ("leaf", 0)), datum).outcomes, word)

    def test_what_stands_behind_a_catch_is_not_met(self):
        self.gives(("pipe", ("catch", S, ONE), FAIL), 0, failure="fail")
        self.gives(("catch", ("pipe", ("catch", S, ONE), FAIL), ("leaf", 2)), 0, 2)
        self.gives(("catch", S, FAIL), 0, 0)
        self.gives(("both", ("catch", FAIL, S), FAIL), 0, "fail", failure="fail")
        self.gives(("sum", ("catch", ONE, S), FAIL), 0, failure="fail")
        self.gives(("as", ("catch", E, S), "x", FAIL), [1], failure="fail")
        self.gives(("list", ("catch", ("both", S, FAIL), ONE)), 0, [0, 1])
        self.gives(("pipe", ("catch", ("both", E, FAIL), ("leaf", "end")), ("list", S)), [1, 2], [1], [2], ["end"])

    def test_reduce(self):
        self.check(("reduce", E, "x", ("leaf", 0), ("sum", S, X)), [5, 6], [11], [
            ("part", 0), ("bind", "x"), ("made", "number"), ("part", 1), ("bind", "x"), ("made", "number")])
        self.check(("reduce", E, "x", I0, ("sum", S, X)), [5, 6], [16], [
            I0, ("part", 0), ("bind", "x"), ("made", "number"), ("part", 1), ("bind", "x"), ("made", "number")])
        self.check(("reduce", NONE, "x", S, FAIL), 4, [4], [])

    def test_reduce_with_none_one_and_two_outcomes(self):
        two = ("both", S, S)
        self.check(("reduce", E, "x", NONE, S), [1], [], [], "one")
        self.check(("reduce", E, "x", two, S), [1], [], [branch(0), branch(1)], "one")
        self.check(("reduce", E, "x", two, S), 1, [], [branch(0), branch(1)], "one")
        self.check(("reduce", E, "x", S, NONE), [1], [], [("part", 0), ("bind", "x")], "one")
        self.check(("reduce", E, "x", S, two), [1], [], [("part", 0), ("bind", "x"), branch(0), branch(1)], "one")
        self.check(("reduce", E, "x", ("both", S, FAIL), S), [1], [], [branch(0), branch(1)], "fail")
        self.check(("reduce", E, "x", ("both", S, NONE), S), 1, [], [branch(0), branch(1)], "every")
        self.check(("reduce", E, "x", S, ("both", S, FAIL)), [1], [], [("part", 0), ("bind", "x"), branch(0), branch(1)], "fail")
        self.check(("reduce", ("both", E, FAIL), "x", ("leaf", 0), X), [1], [], [
            branch(0), ("part", 0), ("bind", "x"), branch(1)], "fail")

    def test_first_and_take(self):
        self.check(("first", TWO_AND_FAIL), 0, [1], [branch(0)])
        self.check(("first", NONE), 0, [], [])
        self.check(("first", FAIL), 0, [], [], "fail")
        self.check(("first", E), [4, 5], [4], [("part", 0)])
        self.check(("take", 0, FAIL), 0, [], [])
        self.check(("take", 1, TWO_AND_FAIL), 0, [1], [branch(0)])
        self.check(("take", 2, TWO_AND_FAIL), 0, [1, 2], [branch(0), branch(1), branch(0)])
        self.check(("take", 3, TWO_AND_FAIL), 0, [1, 2], [branch(0), branch(1), branch(0), branch(1)], "fail")
        self.check(("take", 9, E), [4, 5], [4, 5], [("part", 0), ("part", 1)])
        self.gives(("pipe", E, ("take", 1, E)), [[1, 2], [3, 4]], 1, 3)
        self.gives(("take", 3, ("pipe", E, ("take", 2, E))), [[1, 2, 3], [4, 5]], 1, 2, 4)

    def test_fails(self):
        self.check(("fails", TWO_AND_FAIL), 0, [True], [branch(0), branch(1), branch(0), branch(1), ("made", "yes")])
        self.check(("fails", E), [1, 2], [False], [("part", 0), ("part", 1), ("made", "no")])
        self.check(("fails", NONE), 0, [False], [("made", "no")])
        self.gives(("pipe", ("fails", S), FAIL), 0, failure="fail")

    def test_def_and_call(self):
        self.check(("def", "f", (), E, ("both", call("f"), call("f"))), [1], [1, 1], [
            branch(0), ("call", "f"), ("part", 0), branch(1), ("call", "f"), ("part", 0)])
        self.check(("def", "f", ("g",), ("pipe", E, call("g")), call("f", I0)), [[1], [2]], [1, 2], [
            ("call", "f"), ("part", 0), ("call", "g"), I0, ("part", 1), ("call", "g"), I0])
        self.gives(("def", "f", ("g", "h"), ("sum", call("h"), call("g")), call("f", ("leaf", "a"), ("leaf", "b"))), 0, "ba")

    def test_defs_that_call_themselves(self):
        count = ("def", "f", (), ("both", S, ("if", ("equal", 3), NONE, ("pipe", PLUS, call("f")))), call("f"))
        self.gives(count, 0, 0, 1, 2, 3)
        leaves = ("def", "f", (), ("if", ("is", "list"), ("pipe", E, call("f")), S), ("list", call("f")))
        self.gives(leaves, [1, [2, [3]], []], [1, 2, 3])
        twice = ("def", "f", ("g",), ("if", ("equal", 2), call("g"), ("pipe", PLUS, call("f", ("sum", call("g"), call("g"))))),
                 call("f", S))
        self.gives(twice, 0, 8)

    def test_filters_that_are_handed_in_use_names_of_where_they_are_written(self):
        self.gives(("as", ONE, "x", ("def", "f", ("g",), ("as", ("leaf", 2), "x", call("g")), call("f", X))), 0, 1)
        self.gives(("def", "h", (), ONE, ("def", "f", ("g",), ("def", "h", (), ("leaf", 2), call("g")), call("f", call("h")))), 0, 1)
        self.gives(("as", ONE, "x", ("def", "f", (), X, ("as", ("leaf", 2), "x", call("f")))), 0, 1)
        # A handed-in filter that is called from within another def, and handed on.
        self.gives(("def", "f", ("u",), call("u"), ("def", "g", ("u",), call("f", ("sum", call("u"), ONE)),
                                                    ("as", ("leaf", 5), "x", call("g", X)))), 0, 6)
        self.gives(("def", "f", ("u", "v"), ("def", "g", ("u",), ("list", ("both", call("u"), call("v"))), call("g", call("u"))),
                    call("f", ONE, ("leaf", 2))), 0, [1, 2])

    def test_places(self):
        self.check(("places", ("both", E, ("pipe", A, I1))), {"a": [1, 2]}, [["a"], ["a", 1]], [
            branch(0), ("part", "a"), ("made", "list"), branch(1), A, I1, ("made", "list")])
        self.check(("places", S), 0, [[]], [("made", "list")])
        self.check(("places", ("both", E, A)), [1], [[0]], [branch(0), ("part", 0), ("made", "list"), branch(1), A], "field")
        self.check(("places", ("other", NONE, ("try", I0))), [1], [[0]], [branch(1), I0, branch(0), ("made", "list")])
        self.gives(("pipe", E, ("places", I0)), [[7]], [0])

    def test_tests_make_no_events(self):
        self.check(("if", ("at", ("pipe", A, ("if", YES, S, I0)), ("is", "number")), S, NONE), {"a": [1]},
                   [{"a": [1]}], [branch(0)])

    def test_great_filters(self):
        self.assertEqual(len(tell(tree("both", 100, S), 1).outcomes), 100)
        self.gives(nested(40, lambda inner: ("pipe", inner, S), S), 1, 1)
        self.gives(nested(40, lambda inner: ("list", inner), S), 1, nested(40, lambda inner: [inner], 1))

    def test_like_the_table_of_the_document(self):
        for term, random in random_filters(0, 700):
            for datum in DATA:
                limit = random.choice([3, 10, 60])
                rows, ending, failure, events = plain_run(term, datum, limit)
                told = tell(term, datum, limit=limit)
                self.assertEqual(shown(told.outcomes), shown(tuple(row[0] for row in rows)), (term, datum, limit))
                self.assertEqual((told.ending, told.failure, told.events), (ending, failure, events), (term, datum, limit))


class ChangeTest(unittest.TestCase):
    def check(self, term, datum, outcome, puts, failure=None):
        told = tell(term, datum)
        self.assertEqual(shown(told.outcomes), shown(() if failure else (outcome,)), term)
        self.assertEqual((told.ending, told.failure), ("failing" if failure else "done", failure))
        self.assertEqual([event[1] for event in told.events if event[0] == "put"], puts)

    def test_the_examples(self):
        change = ("change", E, ("if", ("is", "number"), PLUS, NONE))
        self.check(change, [1, "a", 2], [2, 3], [(0,), (2,), (1,)])
        self.check(("change", ("both", A, ("pipe", A, B)), ("leaf", 0)), {"a": {"b": 1}}, None, [("a",)], "lost")
        self.check(("drop", ("both", I0, I2)), [5, 6, 7], [6], [(2,), (0,)])

    def test_events_in_order(self):
        told = tell(("change", E, ("if", ("is", "number"), PLUS, NONE)), [1, "a"])
        self.assertEqual(told.events, (("part", 0), ("part", 1), branch(0), ("made", "number"), ("put", (0,)), branch(1),
                                       ("put", (1,))))
        told = tell(("append", ("both", A, B), ("pipe", E, S)), {"a": [1], "b": [2]})
        self.assertEqual(told.outcomes, ({"a": [1, 1], "b": [2, 2]},))
        self.assertEqual(told.events, (branch(0), A, branch(1), B, ("part", 0), ("put", ("a",)), ("part", 0), ("put", ("b",))))

    def test_change(self):
        self.check(("change", S, ONE), [5], 1, [()])
        self.check(("change", NONE, FAIL), [5], [5], [])
        self.check(("change", A, TWO_AND_FAIL), {"a": 5, "b": 6}, {"a": 1, "b": 6}, [("a",)])
        self.check(("change", A, ("both", NONE, FAIL)), {"a": 5}, None, [], "fail")
        self.check(("change", ("both", A, FAIL), ONE), {"a": 5}, None, [], "fail")
        self.check(("change", B, ONE), {"a": 5}, None, [], "field")
        self.check(("change", ("both", A, A), PLUS), {"a": 5}, {"a": 7}, [("a",), ("a",)])
        self.check(("change", ("both", ("pipe", A, B), A), ("list", S)), {"a": {"b": 1}}, {"a": [{"b": [1]}]}, [("a", "b"), ("a",)])
        self.check(("change", ("both", A, ("pipe", A, B)), ("if", ("is", "dict"), ("dict", (("b", ONE),)), PLUS)),
                   {"a": {"b": 7, "c": 8}}, {"a": {"b": 2}}, [("a",), ("a", "b")])
        self.check(("as", ONE, "x", ("change", E, X)), [7, 8], [1, 1], [(0,), (1,)])

    def test_noted_places(self):
        self.check(("change", ("both", I0, ("both", I2, I0)), NONE), [5, 6, 7], [6], [(2,), (0,)])
        self.check(("change", ("both", E, S), ("if", ("is", "list"), S, NONE)), [5, 6], [], [(), (1,), (0,)])
        # What is noted and exchanged later is dropped, too.
        one_of_two = ("def", "f", (), ("if", ("equal", 0), NONE, ONE), call("f"))
        self.check(("change", ("both", A, S), ("if", ("is", "dict"), ("dict", (("a", ONE),)), NONE)), {"a": 0}, {}, [(), ("a",)])
        self.check(("change", ("both", A, S), ("if", ("is", "dict"), ("leaf", 3), NONE)), {"a": 0}, None, [()], "lost")
        self.check(("change", S, one_of_two), 0, None, [], "whole")
        self.check(("change", ("both", S, A), NONE), {"a": 0}, None, [("a",)], "whole")
        self.check(("drop", ("both", E, ("pipe", E, E))), [[1], [2]], [], [(1, 0), (1,), (0, 0), (0,)])
        self.check(("drop", ("pipe", E, E)), {"b": [1, 2], "a": {"c": 3}}, {"b": [], "a": {}}, [("b", 1), ("b", 0), ("a", "c")])
        self.check(("drop", S), 0, None, [], "whole")
        self.check(("drop", NONE), 0, 0, [])

    def test_drop_gives_data_with_the_order_of_keys_unseen(self):
        told = tell(("drop", A), {"c": 1, "a": 2, "b": 3}).outcomes[0]
        self.assertEqual(told, {"b": 3, "c": 1})

    def test_add(self):
        self.check(("add", S, "b", ("field", "a")), {"a": 5}, {"a": 5, "b": 5}, [()])
        self.check(("add", E, "b", ONE), {"a": {}, "c": {"a": 2}}, {"a": {"b": 1}, "c": {"a": 2, "b": 1}}, [("a",), ("c",)])
        self.check(("add", S, "a", FAIL), {"a": 5}, None, [], "there")
        self.check(("add", S, "a", FAIL), [5], None, [], "there")
        self.check(("add", S, "a", FAIL), {}, None, [], "fail")
        self.check(("add", S, "a", NONE), {}, {}, [])
        self.check(("add", ("both", S, S), "a", ONE), {}, None, [()], "there")
        self.check(("add", ("both", S, A), "a", ("dict", ())), {"a": {}}, None, [], "there")
        self.check(("add", ("both", A, ("pipe", A, B)), "c", ("leaf", 0)), {"a": {"b": {}}}, {"a": {"b": {"c": 0}, "c": 0}},
                   [("a",), ("a", "b")])
        self.check(("add", FAIL, "a", ONE), {}, None, [], "fail")

    def test_append(self):
        self.check(("append", S, ("pipe", E, S)), [5, 6], [5, 6, 5], [()])
        self.check(("append", ("both", S, S), ("list", E)), [5], [5, [5], [5, [5]]], [(), ()])
        self.check(("append", S, FAIL), {}, None, [], "row")
        self.check(("append", S, FAIL), "a", None, [], "row")
        self.check(("append", S, FAIL), [], None, [], "fail")
        self.check(("append", S, NONE), [1], [1], [])
        self.check(("append", E, ONE), [[], 2], None, [(0,)], "row")

    def test_too_great(self):
        self.check(("append", S, ONE), [0] * 998, [0] * 998 + [1], [()])
        self.check(("append", S, ONE), [0] * 999, None, [], "great")
        self.check(("add", S, "a", ("leaf", 0)), {"b": [0] * 997}, {"b": [0] * 997, "a": 0}, [()])
        self.check(("add", S, "a", ("leaf", 0)), {"b": [0] * 998}, None, [], "great")
        self.check(("change", E, I0), [[nested(57)], 1], None, [(0,)], "item")
        self.check(("change", ("both", I0, I1), ("list", S)), [0, nested(58)], [[0], [nested(58)]], [(0,), (1,)])
        self.check(("change", ("both", I0, I1), ("list", S)), [0, nested(59)], None, [(0,)], "great")
        # It is looked at after each exchange, not at the end alone.
        self.check(("as", S, "x", ("change", ("both", I0, I0), ("if", ("is", "number"), X, ONE))), [0] * 501, None, [],
                   "great")

    def test_changes_within_changes(self):
        self.check(("change", E, ("change", E, PLUS)), [[1], [2, 3]], [[2], [3, 4]], [(0,), (0,), (0,), (1,), (1,)])
        self.check(("list", ("drop", ("both", I0, I0))), [1, 2], [[2]], [(0,)])


class LimitTest(unittest.TestCase):
    def test_the_events_of_a_lesser_limit_are_the_first_ones(self):
        for term, _ in random_filters(1000, 1150):
            for datum in DATA[5:]:
                whole = tell(term, datum, limit=60)
                many = len(whole.events)
                for limit in [*range(min(many, 12) + 1), max(0, many - 1), many]:
                    told = tell(term, datum, limit=limit)
                    self.assertEqual(told.events, whole.events[:limit])
                    if limit < many:
                        self.assertEqual((told.ending, told.failure), ("limit", None))
                    self.assertEqual(shown(told.outcomes), shown(whole.outcomes[:len(told.outcomes)]))
                if whole.ending != "limit":
                    self.assertEqual(tell(term, datum, limit=many), whole)
                    self.assertEqual(tell(term, datum, limit=many + 1), whole)

    def test_a_run_that_does_as_many_steps_as_it_may(self):
        self.assertEqual(tell(E, [1, 2], limit=2).ending, "done")
        self.assertEqual(tell(E, [1, 2], limit=1).ending, "limit")
        self.assertEqual(tell(E, [1, 2], limit=1).outcomes, (1,))
        self.assertEqual(tell(("pipe", E, FAIL), [1], limit=1).ending, "failing")
        self.assertEqual(tell(S, 1, limit=0).outcomes, (1,))
        self.assertEqual(tell(A, {}, limit=0).ending, "limit")

    def test_a_limit_is_no_failing(self):
        for term in (("catch", E, ONE), ("fails", E), ("try", A), ("list", E)):
            told = tell(term, [1, 2], limit=0)
            self.assertEqual((told.ending, told.failure, told.outcomes), ("limit", None, ()))

    def test_the_default_limit(self):
        endless = ("def", "f", (), call("f"), call("f"))
        self.assertEqual(len(tell(endless, 1).events), 1000)
        self.assertEqual(len(tell(endless, 1, limit=2000).events), 2000)
        run = Run(endless, 1)
        self.assertEqual(run.ask(), ("limit",))
        self.assertEqual(len(run.events), 1000)

    def test_nested_as_deep_as_it_has_steps(self):
        down = ("def", "f", (), ("if", ("equal", 0), S, ("sum", ("pipe", ("less", S, ONE), call("f")), ONE)), call("f"))
        told = tell(down, 400, limit=2000)
        self.assertEqual((told.outcomes, told.ending), ((400,), "done"))
        self.assertEqual(tell(down, 1000, limit=2000).ending, "limit")
        for word in ("list", "first", "fails"):
            deep = ("def", "f", (), (word, call("f")), call("f"))
            self.assertEqual(len(tell(deep, 1, limit=2000).events), 2000)
        caught = ("def", "f", (), ("catch", call("f"), S), call("f"))
        self.assertEqual(tell(caught, 1, limit=2000).ending, "limit")
        handed = ("def", "f", ("u",), call("f", ("sum", call("u"), ONE)), call("f", S))
        self.assertEqual(tell(handed, 1, limit=2000).ending, "limit")
        handed = ("def", "f", ("u",), ("if", ("equal", 500), call("u"), ("pipe", PLUS, call("f", ("pipe", call("u"), S)))),
                  call("f", S))
        self.assertEqual(tell(handed, 0, limit=2000).ending, "limit")
        handed = ("def", "f", ("u",), ("if", ("equal", 300), call("u"), ("pipe", PLUS, call("f", ("pipe", call("u"), S)))),
                  call("f", S))
        self.assertEqual(tell(handed, 0, limit=2000).outcomes, (300,))
        inner = ("def", "f", (), ("change", S, ("change", S, call("f"))), call("f"))
        self.assertEqual(tell(inner, 0, limit=2000).ending, "limit")
        run = Run(down, 400, limit=2000).copy()
        self.assertEqual(run.take(2), [400])


class TellingTest(unittest.TestCase):
    def test_properties(self):
        told = tell(("both", E, FAIL), [[1], {"a": 2}])
        self.assertEqual(told.outcomes, ([1], {"a": 2}))
        self.assertEqual((told.ending, told.failure), ("failing", "fail"))
        told.outcomes[0].append(5)
        told.outcomes[1]["a"] = 6
        self.assertEqual(told.outcomes, ([1], {"a": 2}))
        self.assertIsInstance(told.outcomes, tuple)
        self.assertIsInstance(told.events, tuple)
        self.assertIsNone(tell(S, 1).failure)

    def test_equal(self):
        self.assertEqual(tell(E, [1]), tell(E, [1]))
        self.assertFalse(tell(E, [1]) != tell(E, [1], limit=5))
        for one, other in (
            (tell(S, 1), tell(S, True)), (tell(S, 0), tell(S, False)), (tell(S, [1]), tell(S, [True])),
            (tell(S, {"a": 0}), tell(S, {"a": False})), (tell(S, 1), tell(S, 2)), (tell(FAIL, 1), tell(A, 1)),
            (tell(NONE, 1), tell(FAIL, 1)), (tell(S, 1), tell(("pipe", ("try", S), S), 1)), (tell(E, [1, 2], limit=1), tell(E, [1])),
            (tell(("catch", FAIL, NONE), 1), tell(NONE, 1)), (tell(S, None), tell(NONE, None)),
        ):
            self.assertNotEqual(one, other)
        self.assertNotEqual(tell(S, 1), (1,))
        self.assertNotEqual(tell(S, 1), None)
        self.assertFalse(tell(S, 1) == Run(S, 1))
        self.assertEqual(tell(S, {"a": 1, "b": 2}), tell(S, {"b": 2, "a": 1}))
        self.assertNotEqual(tell(E, {"a": 1}), tell(E, [1]))


class WrongTest(unittest.TestCase):
    CALLS = (tell, Run, lambda term, datum, **more: Run.from_way(term, datum, (), **more))

    def wrong(self, error, value, *arguments, **more):
        for call_one in self.CALLS:
            with self.assertRaises(error) as caught:
                call_one(*arguments, **more)
            self.assertIs(caught.exception.value, value)
            self.assertIsInstance(caught.exception, ValueError)

    def test_no_closed_filter(self):
        values = NO_FILTERS + TESTS + [value for value in any_values() if value != ("same",)]
        values += [X, ("call", "f", ()), ("as", X, "x", X), ("def", "f", ("u",), S, call("f")),
                   ("reduce", S, "x", X, X), ("list", call("g"))]
        for value in values:
            self.wrong(InvalidFilter, value, value, object(), limit=None)
        for term in FILTERS:
            if is_closed(term):
                tell(term, [1])

    def test_no_datum(self):
        values = [value for value in any_values() + [(), object(), 10 ** 31, [10 ** 31], {"A": 1}, [()], nested(61), [0] * 1000]
                  if not is_datum(value)]
        for value in values:
            self.wrong(InvalidDatum, value, S, value, limit=-1)

    def test_no_limit(self):
        for value in any_values() + [-1, 2001, True, False, "5", 10 ** 99, (5,)]:
            if not (type(value) is int and 0 <= value <= 2000):
                self.wrong(InvalidLimit, value, S, 1, limit=value)
        for limit in (0, 1, 2000):
            tell(S, 1, limit=limit)

    def test_no_count(self):
        for value in any_values() + [-1, 2001, True, False, "5", 10 ** 99]:
            if not (type(value) is int and 0 <= value <= 2000):
                run = Run(E, [1, 2])
                with self.assertRaises(InvalidCount) as caught:
                    run.take(value)
                self.assertIs(caught.exception.value, value)
                self.assertEqual((run.events, len(run)), ((), 0))
        self.assertEqual(Run(E, [1, 2]).take(2000), [1, 2])

    def test_arguments_stay_as_they_were(self):
        datum = {"b": [1, {"a": []}], "a": 2}
        run = Run(("change", E, ("list", S)), datum)
        datum["b"].append(5)
        first = run.ask()[1]
        self.assertEqual(first, {"b": [[1, {"a": []}]], "a": [2]})
        self.assertEqual(shown(datum), shown({"b": [1, {"a": []}, 5], "a": 2}))
        run = Run(("both", S, S), datum)
        first = run.ask()[1]
        first["b"].clear()
        self.assertEqual(run.ask()[1], {"b": [1, {"a": []}, 5], "a": 2})
        run = Run(("as", S, "x", ("both", X, ("list", X))), [[1]])
        run.ask()[1][0].append(2)
        self.assertEqual(run.ask()[1], [[[1]]])


class RunTest(unittest.TestCase):
    TERM = ("both", E, ("pipe", A, E))
    DATUM = {"a": [1, 2]}

    def test_ask(self):
        run = Run(self.TERM, self.DATUM)
        self.assertEqual((run.events, run.way, run.held, len(run)), ((), None, 0, 0))
        self.assertEqual(run.ask(), ("outcome", [1, 2]))
        self.assertEqual(run.events, (branch(0), ("part", "a")))
        self.assertEqual((run.way, run.held, len(run)), ((0, 0), 1, 1))
        self.assertEqual(run.ask(), ("outcome", 1))
        self.assertEqual(run.events, (branch(0), ("part", "a"), branch(1), A, ("part", 0)))
        self.assertEqual((run.way, run.held, len(run)), ((1, 0), 1, 2))
        self.assertEqual(run.ask(), ("outcome", 2))
        self.assertEqual((run.way, run.held, len(run)), ((1, 1), 0, 3))
        for _ in range(3):
            self.assertEqual(run.ask(), ("done",))
            self.assertEqual((run.way, run.held, len(run), len(run.events)), (None, 0, 3, 6))

    def test_the_ending_again(self):
        for term, limit, ending in ((FAIL, 5, ("failing", "fail")), (E, 0, ("limit",)), (NONE, 0, ("done",)), (A, 9, ("failing", "field"))):
            run = Run(term, [1], limit=limit)
            self.assertEqual([run.ask(), run.ask(), run.take(3), list(run.rest()), run.ask()], [ending, ending, [], [], ending])

    def test_no_step_that_is_not_needed(self):
        run = Run(("both", ONE, E), [1, 2])
        run.ask()
        self.assertEqual(run.events, (branch(0),))
        self.assertEqual(run.take(0), [])
        self.assertEqual(run.take(1), [1])
        self.assertEqual(run.events, (branch(0), branch(1), ("part", 0)))
        self.assertEqual(run.take(1), [2])
        self.assertEqual(len(run.events), 4)

    def test_take(self):
        run = Run(E, [1, 2, 3])
        self.assertEqual(run.take(0), [])
        self.assertEqual(run.events, ())
        self.assertEqual(run.take(2), [1, 2])
        self.assertEqual((len(run), run.way), (2, (1,)))
        self.assertEqual(run.take(5), [3])
        self.assertEqual((len(run), run.way, run.held), (3, None, 0))
        self.assertEqual(run.take(5), [])
        self.assertEqual(Run(("both", E, FAIL), [1]).take(5), [1])
        self.assertEqual(Run(E, [1, 2], limit=1).take(5), [1])

    def test_rest(self):
        run = Run(E, [1, 2, 3, 4])
        rest = run.rest()
        self.assertIsInstance(rest, types.GeneratorType)
        self.assertEqual(run.events, ())
        self.assertEqual(next(rest), 1)
        self.assertEqual(run.events, (("part", 0),))
        other = run.rest()
        self.assertEqual([next(other), next(rest), next(other)], [2, 3, 4])
        self.assertEqual(list(rest), [])
        self.assertEqual(list(other), [])
        self.assertEqual(run.ask(), ("done",))
        run = Run(("both", E, FAIL), [1, 2])
        for datum in run.rest():
            break
        self.assertEqual((datum, run.take(9), run.ask()), (1, [2], ("failing", "fail")))

    def test_copy(self):
        for term, random in random_filters(2000, 2150):
            for datum in DATA[5:]:
                run = Run(term, datum, limit=60)
                run.take(random.choice([0, 1, 2, 3]))
                told = (run.events, run.way, run.held, len(run))
                other = run.copy()
                self.assertEqual((other.events, other.way, other.held, len(other)), told)
                rest = list(run.rest())
                self.assertEqual((other.events, other.way, other.held, len(other)), told)
                self.assertEqual(shown(list(other.rest())), shown(rest))
                self.assertEqual((other.ask(), other.events, len(other)), (run.ask(), run.events, len(run)))
        run = Run(E, [1, 2, 3])
        run.ask()
        other = run.copy()
        self.assertEqual([other.ask(), run.ask(), other.ask(), other.ask(), run.ask()], [
            ("outcome", 2), ("outcome", 2), ("outcome", 3), ("done",), ("outcome", 3)])

    def test_copies_share_no_counts(self):
        for term in (("take", 3, E), ("catch", ("both", E, FAIL), S), ("list", E), ("reduce", E, "x", ONE, ("sum", S, X))):
            run = Run(("both", term, term), [1, 2, 3, 4])
            run.ask()
            other = run.copy()
            self.assertEqual(list(other.rest()), list(run.rest()))

    def test_properties_may_be_changed_by_the_caller(self):
        run = Run(self.TERM, self.DATUM)
        run.ask()
        self.assertIsInstance(run.events, tuple)
        self.assertIsInstance(run.way, tuple)
        with self.assertRaises(AttributeError):
            run.way = (5,)

    def test_tell_and_a_run_that_is_asked_to_its_end(self):
        for term, random in random_filters(3000, 3300):
            for datum in DATA:
                limit = random.choice([2, 7, 40])
                rows, ending, failure, events = plain_run(term, datum, limit)
                run = Run(term, datum, limit=limit)
                for found, way, held, many in rows:
                    self.assertEqual(shown(run.ask()), shown(("outcome", found)))
                    self.assertEqual((run.way, run.held, run.events), (way, held, events[:many]), (term, datum))
                self.assertEqual(run.ask(), (ending,) if failure is None else (ending, failure))
                self.assertEqual((run.events, len(run)), (events, len(rows)))
                ways = [row[1] for row in rows]
                self.assertEqual(ways, sorted(set(ways)))


class WayTest(unittest.TestCase):
    def check(self, term, datum, *told):
        """Each outcome with its way and how many choices are open."""
        run = Run(term, datum)
        for outcome, way, held in told:
            self.assertEqual((run.ask(), run.way, run.held), (("outcome", outcome), way, held), term)
        self.assertNotEqual(run.ask()[0], "outcome")
        self.assertEqual((run.way, run.held), (None, 0))

    def test_forms_that_choose(self):
        self.check(E, [7, 8], (7, (0,), 1), (8, (1,), 0))
        self.check(E, {"b": 7, "a": 8}, (8, (0,), 1), (7, (1,), 0))
        self.check(("both", E, S), [7], (7, (0, 0), 1), ([7], (1,), 0))
        self.check(("pipe", E, E), [[1, 2], [3]], (1, (0, 0), 2), (2, (0, 1), 1), (3, (1, 0), 0))
        self.check(("take", 2, E), [7, 8, 9], (7, (0,), 1), (8, (1,), 0))
        self.check(("take", 9, E), [7, 8], (7, (0,), 1), (8, (1,), 1))
        self.check(("catch", TWO_AND_FAIL, ("both", S, S)), 0, (1, (0, 0), 1), (2, (0, 1), 1), ("fail", (1, 0), 1), ("fail", (1, 1), 0))
        self.check(("catch", ("pipe", E, E), S), [[1, 2], [3]], (1, (0, 0), 1), (2, (0, 1), 1), (3, (0, 2), 1))

    def test_ways_that_are_put_together(self):
        two = ("both", ONE, ("leaf", 2))
        for word in ("sum", "alike"):
            run = Run((word, two, two), 0)
            self.assertEqual([(run.ask()[0], run.way, run.held)[1:] for _ in range(4)], [
                ((0, 0), 2), ((0, 1), 1), ((1, 0), 1), ((1, 1), 0)])
        self.check(("as", E, "x", ("both", X, X)), [5], (5, (0, 0), 1), (5, (0, 1), 0))
        self.check(("when", E, ("both", S, S), NONE), [True], ([True], (0, 0), 1), ([True], (0, 1), 0))
        self.check(("dict", (("b", E), ("a", E))), [1, 2], ({"a": 1, "b": 1}, (0, 0), 2), ({"a": 2, "b": 1}, (0, 1), 1),
                   ({"a": 1, "b": 2}, (1, 0), 1), ({"a": 2, "b": 2}, (1, 1), 0))
        self.check(("if", YES, NONE, E), [5], (5, (0,), 0))
        self.check(("other", NONE, E), [5, 6], (5, (0,), 1), (6, (1,), 0))
        self.check(("other", I0, E), [5, 6], (5, (), 0))
        self.check(("def", "f", ("u",), ("both", call("u"), S), call("f", E)), [5], (5, (0, 0), 1), ([5], (1,), 0))
        self.check(("places", ("pipe", E, E)), [[5], [6]], ([0, 0], (0, 0), 1), ([1, 0], (1, 0), 0))

    def test_all_else_has_no_choices(self):
        for term in (S, I0, ("list", E), ("first", E), ("reduce", E, "x", ONE, X), ("fails", E), ("change", E, E), ("drop", E),
                     ("append", S, E), ("try", I1), ("leaf", 1), ("if", YES, E, S)):
            run = Run(("pipe", ("both", S, S), term), [[1, 2], [3]])
            run.ask()
            self.assertEqual((run.way, run.held), ((0,), 1), term)
            run.ask()
            self.assertEqual((run.way, run.held), ((1,), 0), term)

    def test_a_def_that_calls_itself_behind_all_else(self):
        count = ("def", "f", (), ("both", S, ("pipe", PLUS, call("f"))), call("f"))
        run = Run(count, 0, limit=2000)
        for number in range(300):
            self.assertEqual(run.ask(), ("outcome", number))
            self.assertEqual((run.way, run.held), ((1,) * number + (0,), 1))


class FromWayTest(unittest.TestCase):
    def test_from_each_outcome_of_a_run(self):
        for term, _ in random_filters(4000, 4500):
            for datum in DATA:
                rows, ending, failure, _ = plain_run(term, datum, 60)
                if ending != "limit":
                    for number, row in enumerate(rows[:5]):
                        self.check_rest(term, datum, row[1], rows[number + 1:], (ending,) if failure is None else (ending, failure))

    def check_rest(self, term, datum, way, rows, ending):
        run = Run.from_way(term, datum, way)
        self.assertIsInstance(run, Run)
        self.assertEqual((run.way, run.held, len(run), run.events), (None, 0, 0, ()))
        for found, further, held, _ in rows:
            self.assertEqual((shown(run.ask()), run.way, run.held), (shown(("outcome", found)), further, held), (term, datum, way))
        self.assertEqual(run.ask(), ending)
        self.assertEqual(len(run), len(rows))

    def test_the_steps_of_what_comes(self):
        term = ("both", ("pipe", E, E), S)
        run = Run.from_way(term, [[1, 2], [3]], (0, 0, 0), limit=3)
        self.assertEqual([run.ask(), run.ask(), run.ask()], [("outcome", 2), ("outcome", 3), ("limit",)])
        self.assertEqual(run.events, (("part", 1), ("part", 1), ("part", 0)))
        copied = Run.from_way(term, [[1, 2], [3]], (0, 0, 0)).copy()
        self.assertEqual(copied.take(9), [2, 3, [[1, 2], [3]]])
        run = Run.from_way(("take", 3, E), [1, 2, 3, 4], (1,))
        self.assertEqual((run.take(9), run.events), ([3], (("part", 2),)))
        run = Run.from_way(("catch", TWO_AND_FAIL, S), 0, (0, 0))
        self.assertEqual((run.take(9), run.events), ([2, "fail"], (branch(1), branch(0), branch(1), branch(1))))

    def test_what_stands_ahead_of_the_way_is_not_looked_at(self):
        self.assertEqual(Run.from_way(("both", FAIL, E), [1, 2], (1, 0)).take(9), [2])
        self.assertEqual(Run.from_way(("pipe", E, E), [3, [4, 5]], (1, 0)).take(9), [5])

    def no_way(self, term, datum, way, index):
        with self.assertRaises(NoWay) as caught:
            Run.from_way(term, datum, way)
        self.assertEqual(shown(caught.exception.index), shown(index), (term, datum, way))
        self.assertIsInstance(caught.exception, LookupError)

    def test_no_way(self):
        self.no_way(E, [1, 2], (2,), 0)
        self.no_way(E, [1, 2], (), 0)
        self.no_way(E, [1, 2], (0, 0), 1)
        self.no_way(E, [], (), 0)
        self.no_way(E, [], (0,), 0)
        self.no_way(E, 3, (), 0)
        self.no_way(E, 3, (0,), 0)
        self.no_way(("both", S, S), 1, (2,), 0)
        self.no_way(("both", S, E), [1], (1,), 1)
        self.no_way(("both", S, E), [1], (1, 1), 1)
        self.no_way(("both", S, E), [1], (0, 1), 1)
        self.no_way(("both", E, ("pipe", A, E)), [3], (1,), 1)
        self.no_way(("both", E, ("pipe", A, E)), [3], (1, 0), 1)
        self.no_way(("pipe", E, NONE), [3], (0,), 1)
        self.no_way(("pipe", E, NONE), [3], (0, 4), 1)
        self.no_way(("take", 0, S), 1, (), 0)
        self.no_way(("take", 0, S), 1, (0,), 0)
        self.no_way(("take", 2, E), [1, 2, 3], (2,), 0)
        self.no_way(("take", 9, E), [1, 2, 3], (3,), 0)
        self.no_way(("take", 9, ("both", E, FAIL)), [1], (1,), 1)
        self.no_way(("take", 9, ("both", E, FAIL)), [1], (2,), 0)
        self.no_way(("take", 9, ("both", E, FAIL)), [1], (1, 0), 1)
        self.no_way(("catch", E, S), [1], (1,), 0)
        self.no_way(("catch", E, S), [1], (0,), 1)
        self.no_way(("catch", E, S), [1], (0, 1), 1)
        self.no_way(("catch", E, S), [1], (2,), 0)
        self.no_way(("catch", FAIL, E), [1], (0, 0), 1)
        self.no_way(("catch", FAIL, E), [1], (1,), 1)
        self.no_way(("list", E), [1], (0,), 0)
        self.no_way(S, 1, (0, 0), 0)

    def test_any_value_as_a_way(self):
        for value in any_values() + [[], [0], (True,), (-1,), (0, False), ("0",), (0, None), ((0,),), 0, "", "00"]:
            if not (type(value) is tuple and all(type(entry) is int and entry >= 0 for entry in value)):
                self.no_way(("both", E, E), [1], value, 0)
        self.no_way(E, [1], (10 ** 99,), 0)

    def test_like_the_ways_of_the_document(self):
        many = 0
        for term, random in random_filters(5000, 5350):
            for datum in DATA:
                ways = {()}
                for row in plain_run(term, datum, 60)[0][:3]:
                    ways |= {row[1], row[1][:-1], row[1] + (0,)}
                    ways |= {row[1][:at] + (entry,) + row[1][at + 1:] for at in range(len(row[1])) for entry in (0, 1, 2)}
                ways |= {tuple(random.choice([0, 0, 1, 2]) for _ in range(random.choice([1, 2, 3]))) for _ in range(3)}
                for way in sorted(ways):
                    many += self.check_way(term, datum, way)
        self.assertGreater(many, 500)

    def check_way(self, term, datum, way):
        try:
            told = plain_led(term, datum, way, 60)
        except NoWay as caught:
            self.no_way(term, datum, way, caught.index)
            return 0
        if told[0] == "outcome":
            Run.from_way(term, datum, way)
            return 1
        if told[0] != "limit":
            self.no_way(term, datum, way, len(way))
        return 0

    def test_too_long_a_way(self):
        wait = ("def", "f", (), ("if", ("equal", 0), S, ("pipe", ("less", S, ONE), call("f"))), call("f"))
        self.assertEqual(Run.from_way(("both", wait, S), 600, (0,)).take(1), [600])
        self.no_way(("both", wait, S), 700, (0,), 1)


if __name__ == "__main__":
    unittest.main()

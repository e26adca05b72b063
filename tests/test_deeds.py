"""Promises 51 to 53: the deeds of changes, done, taken back, and where parts are behind them."""

import copy
import inspect
import unittest

from sieveways import deeds as module
from sieveways.data import is_datum, part_at, places
from sieveways.deeds import deeds, done, is_deeds, moved, taken_back
from sieveways.errors import Fails, NoPart, NotThere
from sieveways.filters import is_filter
from sieveways.runs import tell
from tests.plain_runs import FilterMaker
from tests.values import any_values, nested, shown

S = ("same",)
A = ("field", "a")
B = ("field", "b")
E = ("every",)
NONE = ("none",)
FAIL = ("fail",)
I0, I1, I2 = ("item", 0), ("item", 1), ("item", 2)
ONE = ("leaf", 1)
PLUS = ("sum", S, ONE)
DATA = [None, 1, [], {}, [1, 2], [1, "a", 2], {"a": 1, "b": [2]}, {"a": {"b": 1}}, [[1], [2, 3]], {"b": [], "a": {"a": {}}}]


class InterfaceTest(unittest.TestCase):
    def test_names_of_arguments(self):
        told = {"deeds": ["term", "datum"], "done": ["datum", "deeds"], "taken_back": ["datum", "deeds"],
                "is_deeds": ["term", "datum", "value"], "moved": ["datum", "deeds"]}
        for name, arguments in told.items():
            function = getattr(module, name)
            self.assertEqual(list(inspect.signature(function).parameters), arguments)
            self.assertEqual(function.__module__, "sieveways.deeds")
        self.assertEqual(deeds(term=("drop", I0), datum=[5]), (("drop", (0,), 5),))
        self.assertEqual(done(datum=[5], deeds=[]), [5])
        self.assertEqual(taken_back(datum=[5], deeds=[]), [5])
        self.assertIs(is_deeds(term=("drop", NONE), datum=[5], value=()), True)
        self.assertEqual(moved(datum=5, deeds=[]), (((), ()),))


class DeedsTest(unittest.TestCase):
    def check(self, term, datum, *told):
        before = copy.deepcopy(datum)
        found = deeds(term, datum)
        self.assertEqual(shown(found), shown(told), (term, datum))
        self.assertEqual(shown(datum), shown(before))
        self.assertIs(is_deeds(term, datum, found), True)
        self.assertEqual(shown(done(datum, found)), shown(tell(term, datum, limit=2000).outcomes[0]))
        self.assertEqual(shown(taken_back(done(datum, found), found)), shown(before))

    def fails(self, term, datum, reason):
        with self.assertRaises(Fails) as caught:
            deeds(term, datum)
        self.assertEqual(caught.exception.reason, reason)
        self.assertIsInstance(caught.exception, RuntimeError)
        self.assertIs(is_deeds(term, datum, ()), False)

    def test_the_examples(self):
        self.check(("change", E, ("if", ("is", "number"), PLUS, NONE)), [1, "a", 2],
                   ("put", (0,), 1, 2), ("put", (2,), 2, 3), ("drop", (1,), "a"))
        self.fails(("change", ("both", A, ("pipe", A, B)), ("leaf", 0)), {"a": {"b": 1}}, "lost")
        self.check(("drop", ("both", I0, I2)), [5, 6, 7], ("drop", (2,), 7), ("drop", (0,), 5))

    def test_each_form(self):
        self.check(("change", NONE, ONE), [1])
        self.check(("change", S, S), [1], ("put", (), [1], [1]))
        self.check(("change", ("both", A, A), PLUS), {"a": 5}, ("put", ("a",), 5, 6), ("put", ("a",), 6, 7))
        self.check(("change", ("both", ("pipe", A, B), A), ("list", S)), {"a": {"b": 1}},
                   ("put", ("a", "b"), 1, [1]), ("put", ("a",), {"b": [1]}, [{"b": [1]}]))
        self.check(("drop", ("both", E, E)), {"b": 1, "a": [2]}, ("drop", ("b",), 1), ("drop", ("a",), [2]))
        self.check(("add", E, "b", A), {"a": {"a": 5}, "c": {"a": 6}}, ("add", ("a", "b"), 5), ("add", ("c", "b"), 6))
        self.check(("add", S, "b", NONE), {})
        self.check(("append", ("both", S, S), ("list", E)), [5], ("add", (1,), [5]), ("add", (2,), [5, [5]]))
        self.check(("change", ("both", A, S), ("if", ("is", "dict"), ("dict", (("a", ONE),)), NONE)), {"a": 0},
                   ("put", (), {"a": 0}, {"a": 1}), ("drop", ("a",), 1))

    def test_only_the_first_outcome_is_asked_for(self):
        self.check(("change", A, ("both", ONE, FAIL)), {"a": 5}, ("put", ("a",), 5, 1))
        self.check(("append", S, ("both", ONE, FAIL)), [], ("add", (0,), 1))

    def test_fails(self):
        for term, datum, reason in (
            (("change", ("both", A, FAIL), ONE), {"a": 1}, "fail"), (("change", B, ONE), {}, "field"), (("drop", S), 1, "whole"),
            (("change", A, FAIL), {"a": 1}, "fail"), (("change", A, ("both", NONE, I0)), {"a": 1}, "item"),
            (("add", S, "a", FAIL), {"a": 1}, "there"), (("add", S, "a", ONE), [], "there"), (("append", S, FAIL), {}, "row"),
            (("append", S, ONE), [0] * 999, "great"), (("change", I0, ("list", S)), [nested(59)], "great"),
            (("change", ("both", A, S), ("if", ("is", "dict"), ("leaf", 3), NONE)), {"a": 0}, "lost"),
        ):
            self.fails(term, datum, reason)

    def test_limit(self):
        endless = ("def", "f", (), ("call", "f", ()), ("call", "f", ()))
        self.fails(("change", A, endless), {"a": 1}, "limit")
        self.fails(("append", S, ("both", NONE, endless)), [], "limit")
        self.check(("change", A, ("both", ONE, endless)), {"a": 5}, ("put", ("a",), 5, 1))
        count = lambda most: ("def", "f", (), ("if", ("equal", most), S, ("pipe", PLUS, ("call", "f", ()))), ("call", "f", ()))
        # Three steps for each number, and two for the last one: each run of u has its own 2,000.
        self.assertEqual(deeds(("change", E, count(666)), [0, 0])[1], ("put", (1,), 0, 666))
        self.fails(("change", E, count(667)), [0, 0], "limit")
        self.check(("change", E, count(300)), [0] * 2, ("put", (0,), 0, 300), ("put", (1,), 0, 300))

    def test_like_the_run(self):
        many = 0
        for seed in range(1500):
            maker = FilterMaker(seed)
            word = maker.random.choice(["change", "drop", "add", "append"])
            term = maker.made(word, maker.random.randint(3, 25), (), ())
            if not is_filter(term):
                continue
            for datum in DATA:
                told = tell(term, datum, limit=2000)
                if told.ending == "done":
                    self.check(term, datum, *deeds(term, datum))
                    many += len(deeds(term, datum)) > 1
                elif told.ending == "failing":
                    self.fails(term, datum, told.failure)
        self.assertGreater(many, 50)

    def test_what_is_returned_shares_nothing(self):
        datum = {"a": [1]}
        term = ("change", ("both", A, A), ("list", S))
        found = deeds(term, datum)
        found[0][2].append(5)
        found[0][3][0].append(6)
        self.assertEqual(datum, {"a": [1]})
        self.assertEqual(found[1][2], [[1]])
        self.assertEqual(deeds(term, datum), (("put", ("a",), [1], [[1]]), ("put", ("a",), [[1]], [[[1]]])))


class DoneTest(unittest.TestCase):
    def check(self, datum, steps, told):
        before, kept = copy.deepcopy(datum), copy.deepcopy(steps)
        for some in (list(steps), tuple(steps)):
            behind = done(datum, some)
            self.assertEqual(shown(behind), shown(told))
            self.assertEqual(shown(taken_back(behind, some)), shown(before))
        self.assertEqual((shown(datum), shown(steps)), (shown(before), shown(kept)))

    def wrong(self, function, datum, steps, index):
        with self.assertRaises(NotThere) as caught:
            function(datum, steps)
        self.assertEqual(shown(caught.exception.index), shown(index), steps)
        self.assertIsInstance(caught.exception, LookupError)

    def test_each_form(self):
        self.check([1, 2], [("put", (0,), 1, [5])], [[5], 2])
        self.check({"a": 1}, [("put", (), {"a": 1}, None)], None)
        self.check([1, 2, 3], [("drop", (1,), 2)], [1, 3])
        self.check({"a": {"b": 1, "c": 2}}, [("drop", ("a", "b"), 1)], {"a": {"c": 2}})
        self.check([1], [("add", (1,), 2), ("add", (2,), 3)], [1, 2, 3])
        self.check({}, [("add", ("b",), 2), ("add", ("a",), [3])], {"a": [3], "b": 2})
        self.check([[]], [("add", (0, 0), {}), ("add", (0, 0, "k"), 1), ("put", (0, 0, "k"), 1, 2), ("drop", (0, 0), {"k": 2})], [[]])
        self.check([], [("add", (0,), 1), ("drop", (0,), 1)], [])
        self.check({"a": 1}, [("put", ("a",), 1, 1)], {"a": 1})
        self.check(5, [], 5)

    def test_what_does_not_fit(self):
        for datum, deed in (
            ([1], ("put", (0,), 2, 3)), ([1], ("put", (0,), True, 3)), ([True], ("put", (0,), 1, 3)), ([1], ("put", (1,), 1, 3)),
            ({"a": [1]}, ("put", ("a",), [True], 3)), ([1], ("put", (False,), 1, 3)), ([1], ("put", (-1,), 1, 3)),
            ({"a": 1}, ("put", ("b",), 1, 3)), (1, ("put", (0,), 1, 3)), (1, ("drop", (), 1)), ([1], ("drop", (), [1])),
            ([1], ("drop", (0,), 2)), ([1], ("drop", (1,), 1)), ([1], ("drop", (0, 0), 1)), ({"a": 1}, ("drop", ("a",), True)),
            ([1], ("add", (), [1])), ([1], ("add", (0,), 2)), ([1], ("add", (2,), 2)), ([1], ("add", (True,), 2)),
            ([1], ("add", ("a",), 2)), ([1], ("add", (-1,), 2)), ({"a": 1}, ("add", ("a",), 1)), ({"a": 1}, ("add", ("A",), 1)),
            ({"a": 1}, ("add", (0,), 1)), ({"a": 1}, ("add", ("abcdefghi",), 1)), ({"a": 1}, ("add", ("",), 1)), (1, ("add", ("a",), 1)),
            ({"a": 1}, ("add", ("b", "c"), 1)), ({"a": 1}, ("add", ("a", "c"), 1)), ({}, ("add", (None,), 1)), ({}, ("add", (["a"],), 1)),
        ):
            self.wrong(done, datum, [deed], 0)
            self.wrong(moved, datum, [deed], 0)
            self.wrong(done, [datum], [("put", (), [datum], datum), deed], 1)

    def test_any_value_as_a_deed(self):
        right = ("put", (0,), 1, 2)
        values = any_values() + [
            list(right), right[:3], right + (3,), ("Put",) + right[1:], ("put", [0], 1, 2), ("put", 0, 1, 2), ("put", (0,), (1,), 2),
            ("put", (0,), 1, (2,)), ("put", (0,), 1, 10 ** 31), ("drop", (0,)), ("drop", (0,), 1, 2), ("drop", [0], 1), ("add", (1,)),
            ("add", (1,), 2, 3), ("add", [1], 2), ("add", (1,), {"A": 2}), ("add", (1,), nested(61)), ("put", (0,), nested(149), 1),
            ("put", nested(149, lambda inner: (inner,)), 1, 2), ("put", (0,), 1, nested(149)), ("change", (0,), 1, 2), (right,), (["put"],),
        ]
        for value in values:
            for function in (done, moved):
                self.wrong(function, [1], [value], 0)
                self.wrong(function, [1], [right, ("put", (0,), 2, 1), value, value], 2)
            self.wrong(taken_back, [1], [value], 0)
            self.wrong(taken_back, [2], [value, value, right], 1)

    def test_the_first_wrong_one(self):
        steps = [("add", (0,), 1), ("drop", (0,), 2), ("drop", (0,), 3)]
        self.wrong(done, [], steps, 1)
        self.wrong(moved, [], steps, 1)
        steps = [("add", (0,), 9), ("add", (0,), 8), ("put", (0,), 1, 2)]
        self.wrong(taken_back, [2], steps, 1)
        self.wrong(taken_back, [3], steps, 2)
        self.wrong(taken_back, [], steps[:1], 0)

    def test_too_great(self):
        for function in (done, moved):
            self.wrong(function, [0] * 999, [("add", (999,), 0)], 0)
            self.wrong(function, [0] * 998, [("add", (998,), 0), ("add", (999,), 0)], 1)
            self.wrong(function, [0] * 998 + [1], [("put", (998,), 1, [1])], 0)
            self.wrong(function, nested(60), [("add", (0,) * 58 + (1,), [])] * 2, 1)
            self.wrong(function, [0], [("put", (0,), 0, nested(60))], 0)
        self.assertEqual(done([0] * 998, [("add", (998,), 0)]), [0] * 999)
        self.assertEqual(done([0], [("put", (0,), 0, nested(59))]), nested(60)[:0] + [nested(59)])
        self.wrong(taken_back, [0] * 999, [("drop", (3,), 0)], 0)
        self.wrong(taken_back, [0] * 998 + [1], [("put", (998,), [0], 1)], 0)
        self.wrong(taken_back, [0], [("put", (0,), nested(60), 0)], 0)
        self.assertEqual(taken_back([0] * 998, [("drop", (3,), 1)]), [0] * 3 + [1] + [0] * 995)

    def test_taken_back_what_does_not_fit(self):
        for datum, deed in (
            ([1], ("put", (0,), 5, 2)), ([1], ("put", (0,), 5, True)), ([1], ("put", (1,), 5, 1)), ([1], ("put", ("a",), 5, 1)),
            ([1], ("add", (0,), 2)), ([1], ("add", (1,), 1)), ([1], ("add", (), [1])), ({"a": 1}, ("add", ("a",), True)),
            ({"a": 1}, ("add", ("b",), 1)), ([1], ("drop", (2,), 5)), ([1], ("drop", (-1,), 5)), ([1], ("drop", (True,), 5)),
            ([1], ("drop", (), 5)), ([1], ("drop", ("a",), 5)), ({"a": 1}, ("drop", ("a",), 5)), ({"a": 1}, ("drop", (0,), 5)),
            ({"a": 1}, ("drop", ("A",), 5)), ({"a": 1}, ("drop", ("a", "b"), 5)), (1, ("drop", (0,), 5)), ([1], ("drop", (0, 0), 5)),
            ({}, ("drop", (["a"],), 5)), ({}, ("drop", ("b", "c"), 5)),
        ):
            self.wrong(taken_back, datum, [deed], 0)

    def test_taken_back_an_add_that_is_not_the_last_element(self):
        self.assertEqual(taken_back([1, 2, 3], [("add", (0,), 1)]), [2, 3])
        self.assertEqual(taken_back([1, 2, 3], [("drop", (1,), 5)]), [1, 5, 2, 3])
        self.assertEqual(taken_back([1], [("drop", (1,), 5)]), [1, 5])
        self.assertEqual(taken_back([1, [2]], [("put", (0,), 5, 1), ("drop", (1, 1), 3)]), [5, [2, 3]])

    def test_what_is_returned_shares_nothing(self):
        datum, new = {"a": [1]}, [2]
        steps = [("add", ("b",), new), ("put", ("a",), [1], new)]
        behind = done(datum, steps)
        behind["a"].append(3)
        self.assertEqual((behind["b"], datum, new, steps), ([2], {"a": [1]}, [2], [("add", ("b",), [2]), ("put", ("a",), [1], [2])]))
        back = taken_back({"a": [2], "b": [2]}, steps)
        back["a"].append(3)
        self.assertEqual(steps[1], ("put", ("a",), [1], [2]))
        whole = [1]
        done(whole, []).append(2)
        taken_back(whole, []).append(2)
        self.assertEqual(whole, [1])


class IsDeedsTest(unittest.TestCase):
    def test_right_and_with_one_thing_wrong(self):
        term, datum = ("change", E, ("if", ("is", "number"), PLUS, NONE)), [0, "a", 1]
        right = deeds(term, datum)
        self.assertIs(is_deeds(term, datum, right), True)
        self.assertIs(is_deeds(term, datum, tuple(list(right))), True)
        first, second, third = right
        for wrong in (
            list(right), right[:2], right + (third,), right[::-1], (list(first), second, third), (first[:3], second, third),
            (("put", (0,), 0, True), second, third), (("put", (0,), False, 1), second, third), (("put", (False,), 0, 1), second, third),
            (("put", [0], 0, 1), second, third), (("put", (0,), 0, 2), second, third), (("put", (2,), 0, 1), second, third),
            (first, ("put", (2,), True, 2), third), (first, second, ("drop", (True,), "a")), (first, second, ("drop", (1,), "b")),
            (first, second, ("add", (1,), "a")), (first, second, None), (first, second, ()), first, None,
        ):
            self.assertIs(is_deeds(term, datum, wrong), False, wrong)

    def test_any_value(self):
        for value in any_values():
            self.assertIs(is_deeds(("drop", I0), [5], value), False)
            self.assertIs(is_deeds(("drop", I0), [5], (value,)), False)
            self.assertIs(is_deeds(("drop", I0), [5], (("drop", (0,), value),)), False)
            self.assertIs(is_deeds(("drop", I0), [5], (("drop", value, 5),)), type(value) is tuple and value == (0,))
            self.assertIs(is_deeds(("drop", NONE), [5], value), type(value) is tuple and value == ())
            self.assertIs(is_deeds(("drop", S), [5], value), False)
        self.assertIs(is_deeds(("drop", E), {"a": {"b": 1, "c": True}}, (("drop", ("a",), {"c": True, "b": 1}),)), True)
        self.assertIs(is_deeds(("drop", E), {"a": {"b": 1, "c": True}}, (("drop", ("a",), {"c": 1, "b": 1}),)), False)


class MovedTest(unittest.TestCase):
    def test_each_form(self):
        self.assertEqual(moved([5, [6], 7], [("drop", (0,), 5)]), (((), ()), ((0,), None), ((1,), (0,)), ((1, 0), (0, 0)), ((2,), (1,))))
        self.assertEqual(moved([5, [6], 7], [("put", (1,), [6], [6])]), (((), ()), ((0,), (0,)), ((1,), None), ((1, 0), None), ((2,), (2,))))
        self.assertEqual(moved([5, [6]], [("add", (2,), 7), ("add", (1, 1), 8)]), (((), ()), ((0,), (0,)), ((1,), (1,)), ((1, 0), (1, 0))))
        self.assertEqual(moved({"b": 1, "a": [2]}, [("drop", ("a",), [2])]), (((), ()), (("a",), None), (("a", 0), None), (("b",), ("b",))))
        self.assertEqual(moved([1], [("put", (), [1], [1])]), (((), None), ((0,), None)))
        self.assertEqual(moved(1, ()), (((), ()),))
        self.assertIsInstance(moved(1, ()), tuple)
        self.assertIsInstance(moved(1, ())[0], tuple)

    def test_several_deeds(self):
        steps = [("drop", (0,), 0), ("drop", (1,), 2), ("add", (2,), 9), ("drop", (0,), 1)]
        self.assertEqual(moved([0, 1, 2, [3]], steps), (((), ()), ((0,), None), ((1,), None), ((2,), None), ((3,), (0,)), ((3, 0), (0, 0))))
        steps = [("drop", ("a", 0), [1]), ("put", ("a", 0), [2], 5), ("drop", ("a", 1), 7)]
        self.assertEqual(moved({"a": [[1], [2], 7, {"b": 8}]}, steps), (
            ((), ()), (("a",), ("a",)), (("a", 0), None), (("a", 0, 0), None), (("a", 1), None), (("a", 1, 0), None), (("a", 2), None),
            (("a", 3), ("a", 1)), (("a", 3, "b"), ("a", 1, "b"))))

    def test_parts_that_are_still_there_are_the_same(self):
        for seed in range(400):
            maker = FilterMaker(seed + 5000)
            term = ("drop", maker.chooser(9)) if seed % 2 else ("change", maker.chooser(9), ("if", ("is", "number"), PLUS, NONE))
            for datum in DATA:
                try:
                    steps = deeds(term, datum)
                except Fails:
                    continue
                found, behind = moved(datum, steps), done(datum, steps)
                self.assertEqual([place for place, _ in found], list(places(datum)))
                for place, now in found:
                    if now is not None and not isinstance(part_at(datum, place), (list, dict)):
                        self.assertEqual(shown(part_at(behind, now)), shown(part_at(datum, place)))
                kept = [now for _, now in found if now is not None]
                self.assertEqual(len(kept), len(set(kept)))
                for now in kept:
                    self.assertTrue(is_datum(part_at(behind, now)))

    def test_without_a_part(self):
        self.assertRaises(NoPart, part_at, done([1], [("drop", (0,), 1)]), (0,))


if __name__ == "__main__":
    unittest.main()

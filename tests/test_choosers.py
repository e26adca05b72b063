"""Promises 20 to 22 and 24: whether tests hold, and which places choosers give."""

import copy
import inspect
import itertools
import unittest

from sieveways import choosers
from sieveways.choosers import chosen, holds
from sieveways.data import alike, part_at
from sieveways.errors import NotChooser
from sieveways.filters import is_chooser, is_filter
from tests.test_filters import FILTERS, tree
from tests.values import nested

S = ("same",)
A = ("field", "a")
B = ("field", "b")
EVERY = ("every",)
NONE = ("none",)
FAIL = ("fail",)
YES = ("is", "yes")
LIST = ("list", S)
OF_EACH_SORT = {
    "null": [None], "no": [False], "yes": [True], "number": [0, 1, -1, 10 ** 30], "text": ["", "0", "yes"],
    "list": [[], [True]], "dict": [{}, {"a": True}],
}
DATA = [
    None, True, 0, 1, "a", [], {}, [None], [True, 1], [[0], {"a": 1}], {"a": None}, {"a": True, "b": [1]},
    {"b": {"a": 0, "b": 1}, "a": {"a": True}}, [{"a": []}, {"b": 1}, {"a": [1, 2]}], [[[]], [[1], 2]],
]


def item(index):
    """The filter of an index."""
    return "item", index


class InterfaceTest(unittest.TestCase):
    def test_names_of_arguments(self):
        for name, arguments in {"holds": ["test", "datum"], "chosen": ["term", "datum"]}.items():
            function = getattr(choosers, name)
            self.assertEqual(list(inspect.signature(function).parameters), arguments)
            self.assertEqual(function.__module__, "sieveways.choosers")
        self.assertIs(holds(datum=True, test=YES), True)
        self.assertEqual(chosen(datum=[1], term=EVERY), (((0,),), None))


class HoldsTest(unittest.TestCase):
    def check(self, test, datum, told):
        self.assertIs(holds(test, datum), told, (test, datum))
        self.assertIs(holds(("not", test), datum), not told, (test, datum))

    def test_each_sort(self):
        for sort in OF_EACH_SORT:
            for other, data in OF_EACH_SORT.items():
                for datum in data:
                    self.check(("is", sort), datum, sort == other)

    def test_each_leaf(self):
        leaves = [None, False, True, 0, 1, -1, 10 ** 30, "", "0", "1", "a", "A"]
        for (at, leaf), (other, datum) in itertools.product(enumerate(leaves), repeat=2):
            self.check(("equal", leaf), datum, at == other)
        for leaf in leaves:
            for datum in ([], {}, [leaf], {"a": leaf}):
                self.check(("equal", leaf), datum, False)

    def test_and_or_not(self):
        right, wrong = ("is", "number"), ("is", "text")
        for one, other in itertools.product((right, wrong), repeat=2):
            self.check(("and", one, other), 1, one == right and other == right)
            self.check(("or", one, other), 1, one == right or other == right)
        self.check(("not", ("not", right)), 1, True)
        self.check(("or", wrong, ("and", right, ("not", wrong))), 1, True)

    def test_at(self):
        datum = {"a": {"b": [True, 2]}, "b": None}
        self.check(("at", S, ("is", "dict")), datum, True)
        self.check(("at", A, ("is", "dict")), datum, True)
        self.check(("at", A, ("is", "list")), datum, False)
        self.check(("at", ("pipe", A, B), ("is", "list")), datum, True)
        self.check(("at", ("pipe", ("pipe", A, B), item(0)), YES), datum, True)
        self.check(("at", ("pipe", A, B), ("at", item(1), ("equal", 2))), datum, True)
        self.check(("at", A, ("at", A, YES)), datum, False)

    def test_a_walk_that_gives_none_or_fails(self):
        anything = ("or", YES, ("not", YES))
        for walk in (NONE, FAIL, A, item(0), item(99), ("pipe", S, NONE), ("pipe", NONE, FAIL), ("pipe", S, FAIL),
                     ("if", YES, S, NONE), ("if", ("at", A, YES), S, FAIL)):
            for datum in (None, 1, "a", [], {}, {"b": 1}):
                self.check(("at", walk, anything), datum, False)
                self.check(("at", walk, ("not", anything)), datum, False)
        self.check(("at", ("if", YES, S, NONE), anything), True, True)
        self.check(("at", ("if", ("at", A, YES), B, FAIL), ("equal", 3)), {"a": True, "b": 3}, True)
        self.check(("at", ("if", ("at", A, YES), B, FAIL), ("equal", 3)), {"a": False, "b": 3}, False)

    def test_the_datum_stays_as_it_was(self):
        datum = {"a": [1, {"b": True}]}
        self.check(("at", ("pipe", A, ("pipe", item(1), B)), YES), datum, True)
        self.assertEqual(datum, {"a": [1, {"b": True}]})

    def test_deep_and_wide_tests(self):
        self.check(nested(40, lambda inner: ("not", inner), YES), True, False)
        self.check(tree("and", 100, YES), True, True)
        self.check(tree("or", 100, YES), 1, False)


class ChosenTest(unittest.TestCase):
    def check(self, term, datum, found, failing=None):
        told = chosen(term, datum)
        self.assertEqual(told, (tuple(found), failing), (term, datum))
        self.assertEqual([type(told)] + [type(row) for row in (told[0],) + told[0]], [tuple] * (len(told[0]) + 2))

    def test_same_none_and_fail(self):
        for datum in DATA:
            self.check(S, datum, [()])
            self.check(NONE, datum, [])
            self.check(FAIL, datum, [], "fail")

    def test_field(self):
        self.check(A, {"a": None}, [("a",)])
        self.check(A, {"b": 1, "a": 2}, [("a",)])
        self.check(("field", "each"), {"each": 1}, [("each",)])
        for datum in (None, True, 1, "a", [], ["a"], [{"a": 1}], {}, {"b": 1}, {"aa": 1}):
            self.check(A, datum, [], "field")

    def test_item(self):
        self.check(item(0), [5], [(0,)])
        self.check(item(1), [5, 6, 7], [(1,)])
        self.check(item(99), [0] * 100, [(99,)])
        self.check(item(99), [0] * 99, [], "item")
        for datum in (None, True, 0, "abc", [], [1], {}, {"a": 1, "b": 2}):
            self.check(item(1), datum, [], "item")

    def test_every(self):
        self.check(EVERY, [5, [6], 7], [(0,), (1,), (2,)])
        self.check(EVERY, {"c": 1, "a": 2, "b": {"d": 3}}, [("a",), ("b",), ("c",)])
        self.check(EVERY, [], [])
        self.check(EVERY, {}, [])
        self.check(EVERY, [0] * 12, [(index,) for index in range(12)])
        for datum in (None, True, False, 1, "abc"):
            self.check(EVERY, datum, [], "every")

    def test_pipe(self):
        self.check(("pipe", A, B), {"a": {"b": 1}}, [("a", "b")])
        self.check(("pipe", A, B), {"a": {"a": 1}}, [], "field")
        self.check(("pipe", EVERY, EVERY), [[1, 2], {"b": 3, "a": 4}, []], [(0, 0), (0, 1), (1, "a"), (1, "b")])
        self.check(("pipe", NONE, FAIL), None, [])
        self.check(("pipe", FAIL, NONE), None, [], "fail")
        self.check(("pipe", S, ("pipe", S, S)), 1, [()])
        self.check(("pipe", ("pipe", EVERY, A), EVERY), [{"a": [0]}, {"a": {"b": 0}}], [(0, "a", 0), (1, "a", "b")])

    def test_both(self):
        self.check(("both", A, B), {"b": 1, "a": 2}, [("a",), ("b",)])
        self.check(("both", B, A), {"b": 1, "a": 2}, [("b",), ("a",)])
        self.check(("both", S, S), 1, [(), ()])
        self.check(("both", EVERY, item(0)), [1, 2], [(0,), (1,), (0,)])
        self.check(("both", NONE, S), 1, [()])

    def test_places_stand_twice(self):
        twice = ("both", S, S)
        self.check(("pipe", twice, twice), 1, [()] * 4)
        self.check(("pipe", EVERY, twice), [1, 2], [(0,), (0,), (1,), (1,)])
        self.check(("pipe", twice, EVERY), [1, 2], [(0,), (1,), (0,), (1,)])

    def test_if(self):
        term = ("if", ("is", "list"), EVERY, S)
        self.check(term, [1, 2], [(0,), (1,)])
        self.check(term, {"a": 1}, [()])
        self.check(("pipe", EVERY, term), [[1], 2, []], [(0, 0), (1,)])
        self.check(("if", ("at", A, YES), FAIL, NONE), {"a": True}, [], "fail")
        self.check(("if", ("at", A, YES), FAIL, NONE), {"b": True}, [])
        self.check(("if", YES, FAIL, S), 1, [()])
        self.check(("if", YES, S, FAIL), True, [()])

    def test_try(self):
        self.check(("try", A), {"a": 1}, [("a",)])
        self.check(("try", A), {"b": 1}, [])
        self.check(("try", FAIL), 1, [])
        self.check(("try", NONE), 1, [])
        self.check(("try", S), 1, [()])
        self.check(("try", ("pipe", A, item(0))), {"a": [1]}, [("a", 0)])
        self.check(("try", ("pipe", A, item(0))), {"a": []}, [])
        self.check(("pipe", EVERY, ("try", A)), [{"a": 1}, 2, {"b": 3}, {"a": 4}], [(0, "a"), (3, "a")])
        self.check(("both", ("try", A), B), {"b": 1}, [("b",)])

    def test_a_try_does_not_meet_what_stands_beside_it(self):
        self.check(("pipe", ("try", S), A), 1, [], "field")
        self.check(("both", ("try", A), A), {}, [], "field")
        self.check(("pipe", ("try", A), FAIL), {}, [])
        self.check(("pipe", ("try", A), FAIL), {"a": 1}, [], "fail")

    def test_other(self):
        self.check(("other", A, B), {"a": 1, "b": 2}, [("a",)])
        self.check(("other", A, B), {"b": 2}, [], "field")
        self.check(("other", NONE, EVERY), [1, 2], [(0,), (1,)])
        self.check(("other", S, FAIL), 1, [()])
        self.check(("other", NONE, FAIL), 1, [], "fail")
        self.check(("other", FAIL, S), 1, [], "fail")
        self.check(("other", item(0), S), {}, [], "item")
        self.check(("other", ("if", ("is", "list"), item(0), NONE), S), [1], [(0,)])
        self.check(("other", ("if", ("is", "list"), item(0), NONE), S), [], [], "item")
        self.check(("other", ("if", ("is", "list"), item(0), NONE), S), 1, [()])
        self.check(("other", ("pipe", A, NONE), B), {"a": 1, "b": 2}, [("b",)])
        self.check(("other", ("pipe", A, NONE), B), {"b": 2}, [], "field")

    def test_places_ahead_of_a_failing_stay(self):
        for term, failing in ((FAIL, "fail"), (A, "field"), (item(0), "item"), (EVERY, "every")):
            self.check(("both", S, term), 1, [()], failing)
            self.check(("both", ("both", S, term), S), 1, [()], failing)
            self.check(("both", term, S), 1, [], failing)
            self.check(("pipe", ("both", S, term), ("both", S, S)), 1, [(), ()], failing)
            self.check(("both", ("pipe", EVERY, ("both", S, term)), S), [1], [(0,)], failing)
        self.check(("pipe", EVERY, A), [{"a": 1}, {"a": 2}, {"b": 3}, {"a": 4}], [(0, "a"), (1, "a")], "field")
        self.check(("pipe", EVERY, EVERY), [[1, 2], 3, [4]], [(0, 0), (0, 1)], "every")

    def test_the_first_failing_is_told(self):
        self.check(("both", A, FAIL), 1, [], "field")
        self.check(("pipe", ("both", item(0), A), B), [{"b": 1}], [(0, "b")], "field")
        self.check(("pipe", ("both", S, FAIL), item(0)), {}, [], "item")
        self.check(("pipe", ("both", S, FAIL), S), {}, [()], "fail")

    def test_what_stands_behind_a_failing_is_not_run(self):
        often = nested(36, lambda inner: ("pipe", inner, ("both", S, S)), ("both", S, S))
        self.check(("pipe", often, FAIL), 1, [], "fail")
        self.check(("both", ("pipe", often, A), often), 1, [], "field")

    def test_great_choosers(self):
        self.check(tree("both", 100, S), 1, [()] * 100)
        self.check(nested(40, lambda inner: ("pipe", inner, S), S), 1, [()])
        datum = nested(60, lambda inner: {"a": inner})
        self.check(tree("pipe", 59, A), datum, [("a",) * 59])
        self.check(tree("pipe", 60, A), datum, [], "field")
        # Somewhat beyond the bounds nothing is raised.
        self.check(tree("both", 110, S), 1, [()] * 110)
        self.check(nested(45, lambda inner: ("pipe", inner, S), S), 1, [()])

    def test_arguments_stay_as_they_were(self):
        datum = {"b": [1, {"a": []}], "a": 2}
        chosen(("both", EVERY, ("pipe", B, EVERY)), datum)
        self.assertEqual(repr(datum), repr({"b": [1, {"a": []}], "a": 2}))


class NotChooserTest(unittest.TestCase):
    def check(self, term, spot):
        self.assertTrue(is_filter(term), term)
        for datum in (None, [1], {"a": 1}):
            with self.assertRaises(NotChooser) as caught:
                chosen(term, datum)
            self.assertEqual(caught.exception.spot, spot)
            self.assertIs(type(caught.exception.spot), tuple)

    def test_the_whole(self):
        for term in FILTERS:
            if not is_chooser(term) and term[0] not in ("both", "if", "pipe", "other"):
                self.check(term, ())

    def test_the_first_spot_in_reading_order(self):
        self.check(("pipe", LIST, S), (0,))
        self.check(("pipe", S, LIST), (1,))
        self.check(("pipe", LIST, LIST), (0,))
        self.check(("both", EVERY, ("pipe", EVERY, LIST)), (1, 1))
        self.check(("both", ("pipe", S, LIST), LIST), (0, 1))
        self.check(("both", ("pipe", S, S), ("list", LIST)), (1,))
        self.check(("other", A, LIST), (1,))
        self.check(("list", ("pipe", LIST, LIST)), ())
        self.check(("pipe", ("pipe", S, ("both", ("try", A), LIST)), LIST), (0, 1, 1))

    def test_a_test_counts_as_a_part(self):
        self.check(("if", YES, LIST, S), (1,))
        self.check(("if", YES, S, LIST), (2,))
        self.check(("if", ("at", A, ("not", YES)), S, ("both", S, LIST)), (2, 1))

    def test_it_is_raised_though_the_part_would_not_be_run(self):
        self.check(("pipe", NONE, LIST), (1,))
        self.check(("pipe", FAIL, LIST), (1,))
        self.check(("other", S, LIST), (1,))
        self.check(("if", ("is", "text"), LIST, S), (1,))

    def test_what_is_no_chooser_at_each_spot(self):
        for part in FILTERS:
            for make, spot in (
                (lambda inner: ("pipe", inner, S), (0,)), (lambda inner: ("pipe", S, inner), (1,)),
                (lambda inner: ("both", inner, S), (0,)), (lambda inner: ("both", S, inner), (1,)),
                (lambda inner: ("if", YES, inner, S), (1,)), (lambda inner: ("if", YES, S, inner), (2,)),
                (lambda inner: ("other", S, inner), (1,)),
            ):
                if is_chooser(part):
                    chosen(make(part), None)
                elif part[0] not in ("both", "if", "pipe", "other"):
                    self.check(make(part), spot)
                    self.check(("pipe", ("both", S, make(part)), part), (0, 1) + spot)


def told_whole(term, datum):
    """The places of a chooser and its failing, told by the table of the document, all outcomes at once."""
    word = term[0]
    if word == "same":
        return [()], None
    if word == "none":
        return [], None
    if word == "field":
        return ([(term[1],)], None) if isinstance(datum, dict) and term[1] in datum else ([], word)
    if word == "item":
        return ([(term[1],)], None) if isinstance(datum, list) and term[1] < len(datum) else ([], word)
    if word == "every" and isinstance(datum, list):
        return [(index,) for index in range(len(datum))], None
    if word == "every" and isinstance(datum, dict):
        return [(key,) for key in sorted(datum)], None
    if word == "pipe":
        found = []
        firsts, failing = told_whole(term[1], datum)
        for place in firsts:
            seconds, inner_failing = told_whole(term[2], part_at(datum, place))
            found.extend(place + further for further in seconds)
            if inner_failing:
                return found, inner_failing
        return found, failing
    if word == "both":
        firsts, failing = told_whole(term[1], datum)
        if failing:
            return firsts, failing
        seconds, failing = told_whole(term[2], datum)
        return firsts + seconds, failing
    if word == "if":
        return told_whole(term[2] if told_test(term[1], datum) else term[3], datum)
    if word == "try":
        return told_whole(term[1], datum)[0], None
    if word == "other":
        firsts, failing = told_whole(term[1], datum)
        return (firsts, failing) if firsts or failing else told_whole(term[2], datum)
    return [], word


def told_test(test, datum):
    """Whether a test holds, told by the document."""
    if test[0] == "is":
        return any(type(datum) is type(one) and (test[1] not in ("yes", "no") or datum is one)
                   for one in OF_EACH_SORT[test[1]])
    if test[0] == "equal":
        return alike(test[1], datum)
    if test[0] == "at":
        return any(told_test(test[2], part_at(datum, place)) for place in told_whole(test[1], datum)[0])
    inner = [told_test(part, datum) for part in test[1:]]
    return {"and": all(inner), "or": any(inner), "not": not inner[0]}[test[0]]


class WholeTest(unittest.TestCase):
    def check(self, term):
        for datum in DATA:
            found, failing = told_whole(term, datum)
            self.assertEqual(chosen(term, datum), (tuple(found), failing), (term, datum))

    def test_choosers_of_every_form_in_one_another(self):
        leaves = [S, A, B, item(0), item(1), EVERY, NONE, FAIL]
        tests = [YES, ("is", "list"), ("equal", 1), ("at", A, YES), ("not", ("at", item(0), ("is", "dict")))]
        walks = [S, A, item(1), NONE, FAIL, ("pipe", A, B), ("if", tests[1], item(0), NONE)]
        pairs = [(word, one, other) for word in ("pipe", "both") for one in leaves for other in leaves]
        pairs += [("if", test, one, other) for test in tests for one in (S, A, FAIL) for other in (NONE, EVERY)]
        pairs += [("try", walk) for walk in walks] + [("other", walk, one) for walk in walks for one in leaves]
        for term in leaves + pairs:
            self.check(term)
        for one, other in itertools.product(pairs[::3], pairs[::5]):
            self.check(("pipe", one, other))
        for one, other in itertools.product(pairs[::4], pairs[::7]):
            self.check(("both", one, other))

    def test_the_data_of_this_test_stay(self):
        before = copy.deepcopy(DATA)
        self.check(("pipe", EVERY, EVERY))
        self.assertEqual(before, DATA)


if __name__ == "__main__":
    unittest.main()

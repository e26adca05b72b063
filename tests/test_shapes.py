"""Promises 60 to 63 and 90: shapes with names, which data are in them, the least ones, and what may not stand there."""

import copy
import inspect
import time
import unittest

from sieveways.choosers import chosen
from sieveways.data import is_datum, parts_of
from sieveways.errors import InvalidEntry, InvalidName, NotChooser, Standing, Unknown, UnknownShape
from sieveways.formulas import is_shape
from sieveways.shapes import Shapes
from tests.brute import all_data
from tests.plain_shapes import ShapeMaker, plain_has
from tests.test_formulas import NO_SHAPES, SHAPES
from tests.values import any_values, nested, shown

S = ("same",)
E = ("every",)
A = ("field", "a")
B = ("field", "b")
I0 = ("item", 0)
NONE = ("none",)
FAIL = ("fail",)
ANY = ("any",)
NULL = ("is", "null")
YES = ("is", "yes")
LIST = ("is", "list")
DATA = tuple(all_data(4, (None, False, True, 0, 1, -1, "", "a", " "), ("a", "aa", "b")))
# How many of them have at most so many parts.
MANY = [sum(parts_of(datum) <= most for datum in DATA) for most in range(5)]
SMALL = tuple(all_data(3, (None, False, True, 0, 1, "", "a"), ("a", "b")))
CHOOSERS = [
    S, A, I0, E, NONE, FAIL, ("pipe", E, A), ("pipe", A, E), ("pipe", E, E), ("both", E, A), ("both", A, E), ("both", A, B),
    ("if", YES, FAIL, E), ("if", ("at", A, NULL), A, B), ("try", A), ("try", ("pipe", I0, A)), ("other", A, E), ("other", NONE, E),
    ("other", ("if", ("is", "dict"), A, NONE), E), ("pipe", E, ("try", A)), ("pipe", ("try", A), E), ("pipe", E, ("both", S, E)),
    ("both", S, FAIL), ("both", NONE, A), ("pipe", E, ("if", YES, NONE, S)), ("pipe", E, FAIL), ("pipe", NONE, FAIL),
    ("pipe", E, ("other", ("if", LIST, I0, NONE), S)), ("if", ("or", ("at", I0, YES), ("not", LIST)), S, E),
]


def tree(inner):
    """Shapes of which one uses itself around others."""
    return {"tree": ("or", NULL, ("and", LIST, ("each", ("name", "tree")))), "further": inner}


class InterfaceTest(unittest.TestCase):
    def test_names_of_arguments(self):
        told = {
            "has": ["shape", "datum"], "least": ["shape"], "shape_parting": ["one", "other"], "shape_within": ["one", "other"],
            "failing": ["f", "shape"], "sizes": ["shape", "most"], "simple": ["shape"],
        }
        self.assertEqual(list(inspect.signature(Shapes).parameters), ["shapes"])
        for name, names in told.items():
            self.assertIn(name, vars(Shapes))
            self.assertEqual(list(inspect.signature(getattr(Shapes, name)).parameters), ["self", *names])
        for name in ("__iter__", "__len__", "__eq__"):
            self.assertIn(name, vars(Shapes))
        self.assertEqual(Shapes.__module__, "sieveways.shapes")

    def test_by_name(self):
        shapes = Shapes(shapes={})
        self.assertIs(shapes.has(shape=ANY, datum=1), True)
        self.assertEqual(shapes.least(shape=ANY), (None,))
        self.assertIs(shapes.shape_parting(one=ANY, other=ANY), None)
        self.assertIs(shapes.shape_within(one=ANY, other=ANY), None)
        self.assertEqual(shapes.failing(f=FAIL, shape=ANY), (None,))
        self.assertEqual(shapes.sizes(shape=ANY, most=2), (True, True))
        self.assertEqual(shapes.simple(shape=ANY), ANY)


class ShapesTest(unittest.TestCase):
    def test_iteration_and_length(self):
        shapes = Shapes({"x": ANY, "b": NULL, "bb": ("name", "x"), "a": YES})
        self.assertEqual((list(shapes), list(shapes), len(shapes)), (["a", "b", "bb", "x"],) * 2 + (4,))
        self.assertEqual((list(Shapes({})), len(Shapes({}))), ([], 0))
        many = {one + other: ANY for one in "abcdef" for other in "bcdfgh"}
        self.assertEqual(len(Shapes(many)), 36)

    def test_equal(self):
        told = [
            {}, {"x": ANY}, {"y": ANY}, {"x": NULL}, {"x": ANY, "y": ANY}, {"x": ("equal", 1)}, {"x": ("equal", True)},
            {"x": ("equal", 0)}, {"x": ("equal", False)}, {"x": ("all", S, ("item", 1, ANY))}, {"x": ("all", S, ("item", 0, ANY))},
            {"x": ("all", ("if", ("equal", 1), S, S), ANY)}, {"x": ("all", ("if", ("equal", True), S, S), ANY)},
        ]
        for one in told:
            for other in told:
                self.assertIs(Shapes(one) == Shapes(dict(other)), one is other, (one, other))
                self.assertIs(Shapes(one) != Shapes(other), one is not other)
        self.assertEqual(Shapes({"x": ANY, "y": NULL}), Shapes({"y": NULL, "x": ANY}))
        for value in any_values() + [["x"], {"x": ANY}]:
            self.assertIs(Shapes({"x": ANY}) == value, False)

    def test_what_is_handed_in_stays(self):
        told = {"b": ("name", "a"), "a": NULL}
        shapes = Shapes(told)
        self.assertEqual(list(told.items()), [("b", ("name", "a")), ("a", NULL)])
        told["a"] = YES
        told["c"] = ANY
        self.assertEqual((list(shapes), shapes.least(("name", "b"))), (["a", "b"], (None,)))
        first = shapes.least(("key", "a", ("least", 1)))
        first[0]["a"].append(5)
        self.assertEqual(shapes.least(("key", "a", ("least", 1))), ({"a": [None]},))
        datum = {"b": [1], "a": 2}
        before = copy.deepcopy(datum)
        shapes.has(("each", ("each", ANY)), datum)
        self.assertEqual((shown(datum), list(datum)), (shown(before), ["b", "a"]))


class ErrorsTest(unittest.TestCase):
    def check(self, told, error, kind, *values):
        before = list(told.items())
        with self.assertRaises(error) as caught:
            Shapes(told)
        self.assertIs(caught.exception.__class__, error)
        self.assertIsInstance(caught.exception, kind)
        self.assertEqual(shown(list(vars(caught.exception).values())), shown(list(values)), told)
        self.assertEqual(list(told.items()), before)

    def test_names(self):
        for value in [None, True, False, 0, 1, "", "A", "abcdefghi", "a b", "a1", "null", "each", "def", "not", "in", (), ("a",), InvalidName(3)]:
            self.check({value: ANY}, InvalidName, ValueError, value)
            self.check({"z": ANY, value: None, "a": None, 5: None}, InvalidName, ValueError, value)
        # In the order of the dict, not of the names.
        self.check({"z": ANY, "none": ANY, "at": ANY}, InvalidName, ValueError, "none")
        for name in ("any", "key", "item", "least", "some", "all", "same", "field"):
            self.assertEqual(list(Shapes({name: ANY})), [name])

    def test_entries(self):
        for value in any_values() + NO_SHAPES:
            if not is_shape(value):
                self.check({"z": ANY, "b": value, "a": ANY, "c": None}, InvalidEntry, ValueError, "b")
        self.check({"b": ("name", "q"), "c": None, "d": 5}, InvalidEntry, ValueError, "c")
        self.check({"b": nested(41, lambda inner: ("not", inner), ANY)}, InvalidEntry, ValueError, "b")
        for shape in SHAPES:
            names = [name for name in ("tree", "any", "x")]
            self.assertEqual(len(Shapes({**{name: ANY for name in names}, "b": shape})), 4)

    def test_unknown(self):
        self.check({"a": ("name", "b")}, Unknown, LookupError, "a", "b")
        self.check({"c": ("name", "z"), "b": ("and", ("name", "c"), ("or", ("name", "y"), ("name", "d")))}, Unknown, LookupError, "b", "y")
        self.check({"a": ("key", "z", ("each", ("all", S, ("name", "q"))))}, Unknown, LookupError, "a", "q")
        # Ahead of a shape that comes back to itself.
        self.check({"a": ("name", "a"), "b": ("name", "c")}, Unknown, LookupError, "b", "c")
        self.check({"b": ("and", ("some", E, ("name", "x")), ("name", "y")), "y": ANY}, Unknown, LookupError, "b", "x")

    def test_a_shape_that_comes_back_to_itself(self):
        self.check({"a": ("name", "a")}, Standing, ValueError, "a")
        self.check({"a": ANY, "b": ("not", ("and", ANY, ("or", ("name", "b"), ANY)))}, Standing, ValueError, "b")
        self.check({"a": ("name", "c"), "b": ("name", "c"), "c": ("not", ("name", "b"))}, Standing, ValueError, "b")
        self.check({"d": ("name", "c"), "c": ("name", "b"), "b": ("name", "d"), "a": ("name", "b")}, Standing, ValueError, "b")
        self.check({"a": ("and", ("key", "a", ("name", "a")), ("name", "a"))}, Standing, ValueError, "a")
        # A way around through a key does not help another one.
        self.check({"a": ("and", ("each", ("name", "b")), ("name", "b")), "b": ("name", "a")}, Standing, ValueError, "a")

    def test_a_shape_that_comes_back_to_itself_through_parts(self):
        for around in (lambda inner: ("key", "k", inner), lambda inner: ("item", 3, inner), lambda inner: ("each", inner)):
            for more in (lambda inner: inner, lambda inner: ("not", inner), lambda inner: ("or", ANY, inner)):
                shapes = Shapes({"a": more(around(more(("name", "b")))), "b": ("and", ANY, ("name", "a"))})
                self.assertEqual(len(shapes), 2)

    def test_named_within_an_all_or_a_some(self):
        for word in ("all", "some"):
            self.check({"a": (word, S, ("name", "a"))}, Standing, ValueError, "a")
            self.check({"a": (word, E, ("key", "k", ("name", "a")))}, Standing, ValueError, "a")
            self.check({"a": ("key", "k", (word, E, ("item", 0, ("name", "a"))))}, Standing, ValueError, "a")
            # b is named within an all of a, and comes to a again.
            self.check({"a": (word, E, ("each", ("name", "b"))), "b": ("key", "k", ("name", "a"))}, Standing, ValueError, "b")
            self.check({"c": ("each", (word, E, ("name", "b"))), "b": ("item", 0, ("name", "d")), "d": ("each", ("name", "c"))},
                       Standing, ValueError, "b")
            self.check({"x": ("key", "k", ("name", "y")), "y": (word, A, ("each", ("name", "x")))}, Standing, ValueError, "x")
            self.assertEqual(len(Shapes({"a": (word, E, ("name", "b")), "b": ("each", ("name", "b"))})), 2)
            self.assertEqual(len(Shapes({"a": ("key", "k", (word, E, ("name", "b"))), "b": (word, E, ("name", "c")), "c": ANY})), 3)

    def test_a_name_within_an_all_has_no_key_around_it(self):
        self.check({"a": ("all", E, ("name", "b")), "b": ("name", "a")}, Standing, ValueError, "a")

    def test_unknown_shapes_in_questions(self):
        shapes = Shapes({"a": ANY})
        unknown = ("or", ("name", "a"), ("key", "k", ("some", E, ("and", ("name", "y"), ("name", "x")))))
        calls = [
            lambda: shapes.has(unknown, 1), lambda: shapes.least(unknown), lambda: shapes.shape_parting(ANY, unknown),
            lambda: shapes.shape_parting(unknown, ("name", "z")), lambda: shapes.shape_within(unknown, ("name", "z")),
            lambda: shapes.shape_within(("name", "a"), unknown), lambda: shapes.sizes(unknown, 3), lambda: shapes.simple(unknown),
            lambda: shapes.failing(E, unknown), lambda: shapes.failing(("list", S), unknown),
        ]
        for call in calls:
            with self.assertRaises(UnknownShape) as caught:
                call()
            self.assertEqual((caught.exception.name, isinstance(caught.exception, LookupError)), ("y", True))

    def test_no_chooser(self):
        shapes = Shapes({})
        for f, spot in ((("list", S), ()), (("pipe", E, ("leaf", 1)), (1,)), (("both", ("both", S, ("first", S)), ("fails", S)), (0, 1))):
            with self.assertRaises(NotChooser) as caught:
                shapes.failing(f, ANY)
            self.assertEqual(caught.exception.spot, spot)


class HasTest(unittest.TestCase):
    def check(self, shape, inside, outside, names=None):
        shapes = Shapes(names or {})
        for told, data in ((True, inside), (False, outside)):
            for datum in data:
                self.assertIs(shapes.has(shape, datum), told, (shape, datum))
                self.assertIs(shapes.has(("not", shape), datum), not told, (shape, datum))

    def test_each_form(self):
        self.check(ANY, [None, 1, [], {}], [])
        self.check(("is", "number"), [0, 5], [True, None, "0", [], {}])
        self.check(("equal", 1), [1], [True, 0, "1", [1], None])
        self.check(("equal", False), [False], [0, True, "", None, []])
        self.check(("key", "a", NULL), [{"a": None}, {"a": None, "b": 1}], [{}, {"a": 1}, {"b": None}, [None], None])
        self.check(("item", 1, NULL), [[1, None], [None, None, 5]], [[], [None], [None, 1], {"a": None}, None])
        self.check(("each", NULL), [[], {}, [None], {"a": None, "b": None}], [None, [None, 1], {"a": 1}, "", 0])
        self.check(("least", 0), [[], [1]], [{}, None, "abc"])
        self.check(("least", 2), [[1, 2], [1, 2, 3]], [[1], [], {"a": 1, "b": 2}, 5])
        self.check(("least", 4), [[0] * 4, [0] * 100], [[0] * 3])
        self.check(("and", LIST, ("least", 1)), [[1]], [[], {}])
        self.check(("or", NULL, LIST), [None, []], [{}, 0])

    def test_shapes_that_use_one_another(self):
        self.check(("name", "tree"), [None, [], [None], [[], [None, [None]]]], [1, {}, [1], [[], [None, [5]]], [{}]], tree(ANY))
        self.check(("name", "further"), [[None], [[]]], [[], None], tree(("and", ("name", "tree"), ("least", 1))))
        chain = {"chain": ("or", NULL, ("key", "a", ("name", "chain")))}
        self.check(("name", "chain"), [None, {"a": None}, {"a": {"a": None, "b": 1}}], [{"a": 1}, {}, {"a": {}}], chain)
        even = {"even": ("or", NULL, ("item", 0, ("name", "odd"))), "odd": ("and", LIST, ("item", 0, ("name", "even")))}
        self.check(("name", "even"), [None, [[None]], [[[[None]]]]], [[None], [[[None]]], []], even)
        self.check(("name", "odd"), [[None], [[[None, 1]], 2]], [None, [[None]]], even)

    def test_all_and_some(self):
        self.check(("all", E, NULL), [[], {}, [None]], [None, [1], [None, 1]])
        self.check(("some", E, NULL), [[None], [1, None], {"a": None}], [None, [], {}, [1]])
        self.check(("all", A, NULL), [{"a": None}], [{"a": 1}, {}, [], None])
        self.check(("some", A, NULL), [{"a": None}], [{"a": 1}, {}, [], None])
        self.check(("all", NONE, NULL), [1, None], [])
        self.check(("some", NONE, ANY), [], [1, None])
        self.check(("all", FAIL, ANY), [], [1, None])
        # Failings ahead of outcomes, and behind them.
        self.check(("some", ("both", S, FAIL), ANY), [], [1, None, []])
        self.check(("all", ("both", FAIL, S), ANY), [], [1, None, []])
        self.check(("some", ("pipe", E, A), NULL), [[{"a": 1}, {"a": None}]], [[{"a": None}, 1], [], [{"a": 1}]])
        self.check(("all", ("pipe", E, A), NULL), [[], [{"a": None}]], [[{"a": None}, 1], [{"a": 1}], 5])
        self.check(("all", ("try", A), NULL), [{"a": None}, {}, 5], [{"a": 1}])
        self.check(("some", ("try", A), NULL), [{"a": None}], [{"a": 1}, {}, 5])
        self.check(("all", ("other", A, E), NULL), [{"a": None}, {"a": None, "b": 1}], [{"a": 1}, {}, [], 5])
        self.check(("all", ("other", NONE, E), NULL), [[], [None]], [[1], 5])
        self.check(("some", ("both", A, E), NULL), [{"a": None}, {"a": 1, "b": None}], [{"a": 1}, {"b": None}])

    def test_each_chooser(self):
        shapes = Shapes({})
        inner = [NULL, ("each", YES), ("all", E, NULL), ("not", ("some", ("try", A), ("equal", 1)))]
        for f in CHOOSERS:
            for shape in inner:
                for word in ("all", "some"):
                    whole = (word, f, shape)
                    simple = shapes.simple(whole)
                    for datum in SMALL:
                        told = plain_has({}, whole, datum)
                        self.assertIs(shapes.has(whole, datum), told, (whole, datum))
                        self.assertIs(plain_has({}, simple, datum), told, (whole, datum))

    def test_great_and_deep(self):
        deep = nested(38, lambda inner: ("and", ANY, ("not", ("not", inner))), ("each", ("name", "x")))
        shapes = Shapes({"x": ("or", NULL, nested(12, lambda inner: ("and", ANY, ("or", ("not", ANY), inner)), ("each", ("name", "x"))))})
        datum = nested(60)
        self.assertIs(shapes.has(("name", "x"), datum), True)
        self.assertIs(shapes.has(("name", "x"), nested(60, core=1)), False)
        self.assertIs(Shapes({"x": ANY}).has(deep, datum), True)
        wide = [[None] * 30 for _ in range(32)]
        self.assertIs(shapes.has(("name", "x"), wide), True)
        self.assertIs(shapes.has(("name", "x"), wide[:-1] + [[None] * 29 + [0]]), False)
        chooser = nested(20, lambda inner: ("pipe", ("both", S, NONE), inner), E)
        whole = nested(30, lambda inner: ("all", chooser, ("and", LIST, inner)), LIST)
        self.assertIs(Shapes({}).has(whole, datum), True)
        self.assertIs(Shapes({}).has(whole, nested(29)), False)


class LeastTest(unittest.TestCase):
    def test_the_example(self):
        shapes = Shapes({"tree": ("or", ("equal", None), ("and", ("each", ("name", "tree")), ("least", 2)))})
        self.assertEqual(shapes.least(("and", ("name", "tree"), ("not", ("equal", None)))), ([None, None],))

    def check(self, shape, datum, names=None):
        found = Shapes(names or {}).least(shape)
        self.assertEqual(shown(found), shown(None if datum is None else (datum,)), shape)

    def test_least_data(self):
        self.assertEqual(shown(Shapes({}).least(ANY)), shown((None,)))
        self.check(("not", NULL), False)
        self.check(("and", ("not", NULL), ("not", ("is", "no"))), True)
        self.check(("is", "number"), 0)
        self.check(("and", ("is", "number"), ("not", ("equal", 0))), 1)
        self.check(("and", ("is", "number"), ("and", ("not", ("equal", 0)), ("not", ("equal", 1)))), -1)
        self.check(("is", "text"), "")
        self.check(("and", ("is", "text"), ("not", ("equal", ""))), " ")
        self.check(LIST, [])
        self.check(("is", "dict"), {})
        self.check(("each", NULL), [])
        self.check(("some", E, ("is", "no")), [False])
        self.check(("and", ("is", "dict"), ("some", E, ANY)), {"a": None})
        self.check(("and", ("is", "dict"), ("and", ("some", E, NULL), ("some", E, YES))), {"a": None, "aa": True})
        self.check(("and", ("key", "b", NULL), ("some", E, YES)), {"a": True, "b": None})
        self.check(("and", ("key", "a", NULL), ("some", E, YES)), {"a": None, "aa": True})
        self.check(("and", ("key", "aa", NULL), ("and", ("some", E, YES), ("some", E, ("is", "no")))), {"a": False, "aa": None, "aaa": True})
        self.check(("and", ("not", ("key", "a", ANY)), ("and", ("is", "dict"), ("some", E, ANY))), {"aa": None})
        self.check(("item", 2, YES), [None, None, True])
        self.check(("and", ("least", 3), ("some", E, ("equal", "x"))), [None, None, "x"])
        self.check(("and", ("item", 0, ("least", 2)), ("some", E, YES)), [[None, None], True])
        # Fewer parts come first, then the sorts, then what comes first in them.
        self.check(("or", ("key", "a", NULL), ("least", 1)), [None])
        self.check(("and", ("not", ("equal", True)), ("not", ("or", NULL, ("equal", False)))), 0)

    def test_none(self):
        for shape in (("not", ANY), ("and", NULL, YES), ("and", ("least", 1), ("each", ("not", ANY))), ("some", FAIL, ANY),
                      ("and", ("key", "a", NULL), ("each", YES)), ("and", ("each", NULL), ("some", E, ("is", "text"))),
                      ("and", ("equal", 1), ("equal", True)), ("and", ("equal", 0), ("equal", False))):
            self.check(shape, None)
        endless = {"x": ("key", "a", ("name", "x")), "y": ("and", ("each", ("name", "y")), ("least", 1))}
        self.check(("name", "x"), None, endless)
        self.check(("name", "y"), None, endless)

    def test_great_data(self):
        self.check(nested(3, lambda inner: ("and", ("least", 3), ("each", inner)), ("least", 2)), [[[None] * 2] * 3] * 3)
        self.check(nested(3, lambda inner: ("and", ("least", 3), ("each", inner)), ("least", 3)), [[[None] * 3] * 3] * 3)
        chain = {"x": ("key", "a", nested(20, lambda inner: ("key", "b", inner), ("or", YES, ("name", "y")))),
                 "y": ("key", "c", nested(18, lambda inner: ("item", 0, inner), ("or", YES, NULL)))}
        self.assertEqual(parts_of(Shapes(chain).least(("name", "x"))[0]), 21)
        rounds = {"r": ("or", NULL, nested(6, lambda inner: ("key", "a", inner), ("name", "r"))),
                  "s": ("or", NULL, nested(7, lambda inner: ("key", "a", inner), ("name", "s")))}
        found = Shapes(rounds).least(("and", ("not", NULL), ("and", ("name", "r"), ("name", "s"))))
        self.assertEqual(found, (nested(31, lambda inner: {"a": inner}),))

    def test_of_sixty_parts(self):
        names = {"r": ("or", ("least", 4), ("item", 0, ("name", "r"))),
                 "s": ("and", ("least", 3), ("each", ("and", ("least", 4), ("each", ("and", ("least", 3), ("each", YES))))))}
        found = Shapes(names).least(("and", ("name", "s"), ("item", 2, ("item", 3, ("item", 2, ("equal", True))))))
        self.assertEqual(found, ([[[True] * 3] * 4] * 3,))
        self.assertEqual(parts_of(found[0]), 52)
        more = ("and", ("name", "s"), ("item", 1, ("item", 0, ("item", 9, YES))))
        found = Shapes(names).least(("and", more, ("not", ("item", 0, ("not", ("item", 0, ("item", 3, YES)))))))
        self.assertEqual(found, ([[[True] * 4] + [[True] * 3] * 3, [[True] * 10] + [[True] * 3] * 3, [[True] * 3] * 4],))
        self.assertEqual(parts_of(found[0]), 60)

    def test_too_great_for_data(self):
        great = nested(6, lambda inner: ("and", ("least", 4), ("each", inner)), ("least", 4))
        self.check(great, None)
        self.assertIs(Shapes({}).shape_within(ANY, ("not", great)), None)
        deep = {"x": nested(31, lambda inner: ("key", "a", inner), ("name", "y")), "y": nested(31, lambda inner: ("key", "a", inner), ANY)}
        self.check(("name", "x"), None, deep)
        deep["y"] = nested(30, lambda inner: ("key", "a", inner), ANY)
        found = Shapes(deep).least(("name", "x"))
        self.assertEqual(found, (nested(60, lambda inner: {"a": inner}),))
        self.assertIs(is_datum(found[0]), True)


class CostTest(unittest.TestCase):
    """Questions with about 20 shapes, filters and tests, in which many things have to be told apart."""

    def shapes(self):
        fields = lambda letters: [("field", letter) for letter in letters]
        both = lambda rows: rows[0] if len(rows) == 1 else ("both", rows[0], both(rows[1:]))
        every = lambda many: ("and", ("some", E, ("equal", many)), every(many - 1)) if many else ("some", E, YES)
        yield ("some", both(fields("abcdefghi")), NULL), 10
        yield ("all", both(fields("abcdefghi")), NULL), 10
        yield ("some", ("pipe", both(fields("abcd")), both(fields("efgh"))), NULL), 21
        yield ("some", ("pipe", ("pipe", E, both(fields("efgh"))), both(fields("abc"))), NULL), 18
        yield ("some", ("pipe", E, both([("try", field) for field in fields("abcde")])), ("not", NULL)), 3
        yield every(4), 6
        yield ("some", ("pipe", E, ("pipe", E, ("pipe", E, E))), ("and", ("least", 2), ("each", ("and", ("least", 3), ("each", ("is", "text")))))), 13

    def test_they_are_answered_within_seconds(self):
        begin = time.monotonic()
        shapes = Shapes({})
        for shape, parts in self.shapes():
            found = shapes.least(shape)
            self.assertEqual((parts_of(found[0]), plain_has({}, shape, found[0])), (parts, True), shape)
            self.assertIs(shapes.least(("and", ("each", shape), ("or", NULL, YES))), None)
            told = shapes.sizes(shape, 30)
            self.assertEqual(told.index(True) + 1, parts)
            self.assertIs(shapes.shape_within(shapes.simple(shape), ("or", ("is", "text"), shape)), None)
        self.assertLess(time.monotonic() - begin, 60)


class BruteTest(unittest.TestCase):
    """What is told is compared with all data of few parts."""

    def check(self, found, truths, what, most=4):
        told = next(((datum,) for datum, is_so in zip(DATA, truths) if is_so), None)
        if told is None and found is not None:
            self.assertGreater(parts_of(found[0]), most, what)
        else:
            self.assertEqual(shown(found), shown(told), what)
        return found is None

    def test_random_shapes(self):
        none = 0
        for seed in range(160):
            maker = ShapeMaker(seed, keys=("a", "b") if seed < 120 else ("aa", "b"), leaves=(None, 0, 1, "a", True))
            names = ("x", "y") if seed % 2 else ()
            told = {name: maker.shape(maker.random.randint(1, 6), names) for name in names}
            none += self.check_questions(maker, told, names, 3 if seed % 4 else 4)
        self.assertGreater(none, 40)

    def check_questions(self, maker, told, names, most):
        shapes = Shapes(told)
        one, other = [maker.shape(maker.random.randint(1, 9), names) for _ in range(2)]
        f = maker.chooser(maker.random.randint(1, 9))
        data = DATA[:MANY[most]]
        first = [plain_has(told, one, datum) for datum in data]
        second = [plain_has(told, other, datum) for datum in data]
        what = (told, one, other, f)
        none = self.check(shapes.least(one), first, what, most)
        none += self.check(shapes.shape_parting(one, other), [a != b for a, b in zip(first, second)], what, most)
        none += self.check(shapes.shape_within(one, other), [a and not b for a, b in zip(first, second)], what, most)
        fails = [a and chosen(f, datum)[1] is not None for a, datum in zip(first, data)]
        none += self.check(shapes.failing(f, one), fails, what, most)
        sizes = tuple(any(first[MANY[many - 1]:MANY[many]]) for many in range(1, most + 1))
        self.assertEqual(shapes.sizes(one, most), sizes, what)
        simple = shapes.simple(one)
        for index in range(0, len(data), 41):
            self.assertIs(shapes.has(one, data[index]), first[index], what)
            self.assertIs(shapes.has(simple, data[index]), first[index], what)
        self.assertIs(shapes.shape_parting(one, simple), None)
        return none

    def test_each_chooser(self):
        shapes = Shapes({})
        for f in CHOOSERS:
            for shape in (ANY, LIST, ("each", ("each", ANY)), ("not", ("some", E, NULL))):
                truths = [chosen(f, datum)[1] is not None and plain_has({}, shape, datum) for datum in DATA]
                self.check(shapes.failing(f, shape), truths, (f, shape))


class PartingTest(unittest.TestCase):
    def test_parting_and_within(self):
        shapes = Shapes(tree(ANY))
        self.assertEqual(shown(shapes.shape_parting(NULL, YES)), shown((None,)))
        self.assertEqual(shown(shapes.shape_parting(("equal", 1), ("equal", True))), shown((True,)))
        self.assertEqual(shown(shapes.shape_parting(("equal", 0), ("equal", False))), shown((False,)))
        self.assertIs(shapes.shape_parting(("not", ("and", NULL, LIST)), ANY), None)
        self.assertIs(shapes.shape_parting(("or", NULL, LIST), ("not", ("and", ("not", LIST), ("not", NULL)))), None)
        self.assertIs(shapes.shape_within(NULL, ("or", LIST, NULL)), None)
        self.assertEqual(shapes.shape_within(("or", LIST, NULL), LIST), (None,))
        self.assertEqual(shapes.shape_within(LIST, ("name", "tree")), ([False],))
        self.assertIs(shapes.shape_within(("name", "tree"), ("or", NULL, ("each", ("name", "tree")))), None)
        self.assertIs(shapes.shape_parting(("name", "tree"), ("or", NULL, ("and", LIST, ("each", ("name", "tree"))))), None)
        self.assertIs(shapes.shape_parting(("all", ("pipe", E, A), NULL), ("all", E, ("all", A, NULL))), None)
        both = ("and", ("some", E, ("some", A, NULL)), ("all", E, ("all", A, ANY)))
        self.assertIs(shapes.shape_parting(("some", ("pipe", E, A), NULL), both), None)
        self.assertEqual(shapes.shape_parting(("some", ("pipe", E, A), NULL), ("some", E, ("some", A, NULL))), ([None, {"a": None}],))

    def test_failing(self):
        shapes = Shapes(tree(ANY))
        self.assertEqual(shapes.failing(E, ANY), (None,))
        self.assertIs(shapes.failing(E, ("each", ANY)), None)
        self.assertIs(shapes.failing(("try", A), ANY), None)
        self.assertEqual(shapes.failing(("pipe", E, E), ("name", "tree")), (None,))
        self.assertEqual(shapes.failing(("pipe", E, E), ("and", LIST, ("name", "tree"))), ([None],))
        self.assertIs(shapes.failing(A, ("key", "a", ANY)), None)
        self.assertEqual(shapes.failing(("both", A, B), ("key", "a", ANY)), ({"a": None},))
        self.assertIs(shapes.failing(FAIL, ("not", ANY)), None)


class SizesTest(unittest.TestCase):
    def check(self, shape, numbers, most=30, names=None):
        told = Shapes(names or {}).sizes(shape, most)
        self.assertEqual(told, tuple(number in numbers for number in range(1, most + 1)), shape)
        for truth in told:
            self.assertIn(truth, (True, False))

    def test_sizes(self):
        self.check(ANY, range(1, 31))
        self.check(ANY, [1], 1)
        self.check(("not", ANY), [])
        self.check(NULL, [1])
        self.check(("each", NULL), range(1, 31))
        self.check(("least", 2), range(3, 31))
        self.check(("key", "a", NULL), range(2, 31))
        self.check(("and", LIST, ("each", ("and", LIST, ("each", ("not", ANY))))), range(1, 31))

    def test_gaps(self):
        pairs = {"pair": ("or", NULL, ("and", ("and", ("item", 0, ("name", "pair")), ("item", 1, ("name", "pair"))), ("not", ("least", 3))))}
        self.check(("name", "pair"), range(1, 31, 2), names=pairs)
        threes = {"x": ("or", NULL, ("and", ("item", 1, ("name", "x")), ("and", ("item", 0, NULL), ("not", ("item", 2, ANY)))))}
        self.check(("name", "x"), range(1, 31, 2), names=threes)
        fours = {"x": ("or", NULL, ("and", ("and", ("item", 2, NULL), ("each", ("or", NULL, ("name", "x")))), ("not", ("least", 4))))}
        self.check(("name", "x"), range(1, 31, 3), names=fours)
        self.check(("and", ("name", "x"), ("not", NULL)), range(4, 31, 3), names=fours)
        only = ("and", ("least", 2), ("and", ("not", ("least", 3)), ("each", NULL)))
        self.check(only, [3])
        self.check(("or", NULL, ("and", ("least", 4), ("each", only))), [1, *range(13, 31, 3)])
        # Of a dict all other keys may be there, too, if no each tells of them.
        self.check(("and", ("is", "dict"), ("each", only)), range(1, 31, 3))
        self.check(("key", "a", only), range(4, 31))


class SimpleTest(unittest.TestCase):
    def words(self, shape):
        yield shape[0]
        for part in shape[1:]:
            if isinstance(part, tuple):
                yield from self.words(part)

    def test_no_all_and_no_some(self):
        shapes = Shapes({"x": ("some", E, NULL), "y": ("all", A, ("name", "x"))})
        without_names = [shape for shape in SHAPES if "name" not in self.words(shape)]
        with_names = [("name", "x"), ("all", E, ("name", "y"))]
        for shape in without_names + with_names + [("some", f, ("all", f, YES)) for f in CHOOSERS]:
            simple = shapes.simple(shape)
            words = list(self.words(simple))
            self.assertNotIn("all", words)
            self.assertNotIn("some", words)
            for word in words:
                self.assertIn(word, ("any", "is", "equal", "key", "item", "each", "least", "and", "or", "not", "name"))
            self.assertIs(shapes.shape_parting(shape, simple), None, shape)
            self.assertEqual(shapes.simple(simple), simple)

    def test_names_stay_names(self):
        shapes = Shapes({"x": ("some", E, NULL), "y": ("all", A, ("name", "x"))})
        self.assertEqual(shapes.simple(("name", "x")), ("name", "x"))
        self.assertIn("name", list(self.words(shapes.simple(("all", E, ("name", "y"))))))
        self.assertEqual(shapes.simple(("all", E, ("name", "y"))), ("each", ("name", "y")))

    def test_deep_answers(self):
        shapes = Shapes({})
        chooser = nested(6, lambda inner: ("if", ("at", A, YES), ("pipe", E, inner), ("other", B, inner)), S)
        simple = shapes.simple(("some", chooser, NULL))
        self.assertIs(shapes.has(simple, {"b": None}), plain_has({}, ("some", chooser, NULL), {"b": None}))
        deep = nested(300, lambda inner: ("not", ("and", inner, ANY)), ("key", "a", NULL))
        self.assertIs(shapes.has(deep, {"a": None}), False)
        self.assertEqual(shapes.least(deep), (None,))


if __name__ == "__main__":
    unittest.main()

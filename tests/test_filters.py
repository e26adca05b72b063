"""Promises 20 and 22 to 24: which values are filters, tests, walks and choosers, and which filters are closed."""

import inspect
import unittest

from sieveways import filters
from sieveways.filters import is_chooser, is_closed, is_filter, is_test, is_walk
from tests.values import any_values, nested

S = ("same",)
A = ("field", "a")
EVERY = ("every",)
YES = ("is", "yes")
LIST = ("list", S)
SORTS = ("null", "no", "yes", "number", "text", "list", "dict")
WORDS = (
    "null yes no each none fail try other if then else end when as catch reduce first take fails def in change drop "
    "places add append is equal at and or not"
).split()

# Right filters of every form.
FILTERS = [
    ("same",), ("field", "a"), ("field", "abcdefgh"), ("field", "each"), ("field", "not"), ("item", 0), ("item", 99),
    ("every",), ("none",), ("fail",), ("pipe", S, A), ("both", LIST, EVERY), ("if", YES, LIST, A),
    ("try", S), ("try", ("pipe", A, ("if", YES, ("item", 1), ("fail",)))), ("other", A, LIST), ("other", ("none",), S),
    ("leaf", None), ("leaf", True), ("leaf", False), ("leaf", 0), ("leaf", 10 ** 30), ("leaf", -(10 ** 30)),
    ("leaf", ""), ("leaf", "a" * 200), ("leaf", "A ~"), ("list", EVERY), ("dict", ()), ("dict", (("a", S),)),
    ("dict", (("b", LIST), ("a", EVERY), ("each", S))), ("sum", S, A), ("less", S, A), ("product", S, A),
    ("alike", S, A), ("before", S, A), ("as", EVERY, "x", ("name", "x")), ("name", "x"), ("name", "list"),
    ("when", S, A, LIST), ("catch", A, LIST), ("reduce", EVERY, "x", S, ("name", "x")), ("first", EVERY),
    ("take", 0, S), ("take", 99, LIST), ("fails", A), ("def", "f", (), S, ("call", "f", ())),
    ("def", "f", ("a", "b", "c"), S, S), ("def", "f", ("f",), S, S), ("call", "f", ()), ("call", "f", (S, A, LIST)),
    ("places", EVERY), ("places", ("both", ("other", A, EVERY), ("try", A))), ("change", EVERY, LIST),
    ("drop", EVERY), ("add", A, "each", LIST), ("append", ("both", S, A), LIST),
]
# Right tests of every form.
TESTS = [("is", sort) for sort in SORTS] + [
    ("equal", None), ("equal", True), ("equal", False), ("equal", -5), ("equal", 10 ** 30), ("equal", "text"),
    ("at", S, YES), ("at", ("pipe", A, ("item", 3)), ("not", YES)), ("and", YES, ("equal", 1)), ("or", YES, YES),
    ("not", ("at", ("fail",), YES)),
]
# Values with one thing wrong.
NO_FILTERS = [
    (), "same", ["same"], ("same", 1), ("Same",), ("sames",), ("",), (None,), (("same",),), ("same", S),
    ("field",), ("field", ""), ("field", "abcdefghi"), ("field", "A"), ("field", "a1"), ("field", 0), ("field", None),
    ("field", ("a",)), ("field", ["a"]), ("field", "a", "b"), ["field", "a"],
    ("item",), ("item", -1), ("item", 100), ("item", True), ("item", False), ("item", "0"), ("item", None),
    ("item", 10 ** 99), ("item", 0, 1), ("item", (0,)),
    ("every", "a"), ("none", S), ("fail", "a"), ("pipe",), ("pipe", S), ("pipe", S, S, S), ("pipe", S, None),
    ("pipe", S, []), ("pipe", ["same"], S), ("pipe", S, "same"), ("pipe", S, YES), ("pipe", YES, S), ["pipe", S, S],
    ("both", S), ("both", S, S, S), ("both", YES, S), ("both", S, YES), ("both", (S, S)), ("both", [S, S]),
    ("if", YES, S), ("if", S, S, S), ("if", YES, YES, S), ("if", YES, S, YES), ("if", YES, S, S, S), ("if",),
    ("if", ["is", "yes"], S, S), ("if", None, S, S),
    ("try", EVERY), ("try", LIST), ("try", ("both", S, S)), ("try", ("try", S)), ("try", ("other", S, S)),
    ("try", ("pipe", S, EVERY)), ("try", ("if", YES, S, EVERY)), ("try",), ("try", S, S), ("try", YES),
    ("try", ("leaf", 1)), ("try", ("pipe", S, ("if", YES, ("leaf", 1), S))),
    ("other", EVERY, S), ("other", LIST, S), ("other", S), ("other", S, YES), ("other", YES, S), ("other", S, S, S),
    ("other", ("pipe", S, ("try", S)), S),
    ("leaf",), ("leaf", []), ("leaf", {}), ("leaf", ()), ("leaf", [1]), ("leaf", {"a": 1}), ("leaf", 10 ** 30 + 1),
    ("leaf", -(10 ** 30) - 1), ("leaf", "a" * 201), ("leaf", "%"), ("leaf", "\n"), ("leaf", 1, 2), ("leaf", S),
    ("list",), ("list", S, S), ("list", YES), ("list", []), ("list", (S,)),
    ("dict",), ("dict", []), ("dict", {}), ("dict", {"a": S}), ("dict", None), ("dict", (("a", S), ("a", A))),
    ("dict", [("a", S)]), ("dict", (["a", S],)), ("dict", (("a",),)), ("dict", (("a", S, S),)), ("dict", (("A", S),)),
    ("dict", ((0, S),)), ("dict", ((None, S),)), ("dict", ((("a",), S),)), ("dict", ((["a"], S),)), ("dict", ("a", S)),
    ("dict", (("a", YES),)), ("dict", (("abcdefghi", S),)), ("dict", (("", S),)), ("dict", (("a", S),), ()),
    ("dict", (("a", S), ("b", S), ("a", S))), ("dict", ("ab",)), ("dict", "ab"), ("dict", ((),)), ("dict", (S,)),
    ("sum", S), ("sum", S, S, S), ("sum", YES, S), ("less", S, YES), ("product", S, 2), ("alike", S), ("before", S),
    ("as", S, "x"), ("as", S, "each", S), ("as", S, "", S), ("as", S, "abcdefghi", S), ("as", S, None, S),
    ("as", S, ("x",), S), ("as", S, ("name", "x"), S), ("as", YES, "x", S), ("as", S, "x", YES), ("as", S, S, "x"),
    ("name",), ("name", "each"), ("name", "X"), ("name", 1), ("name", ["x"]), ("name", "x", "y"), ("name", ""),
    ("when", S, S), ("when", YES, S, S), ("when", S, YES, S), ("when", S, S, YES), ("when", S, S, S, S),
    ("catch", S), ("catch", S, YES), ("catch", YES, S), ("catch", S, S, S),
    ("reduce", S, "x", S), ("reduce", S, "in", S, S), ("reduce", S, S, "x", S), ("reduce", YES, "x", S, S),
    ("reduce", S, "x", YES, S), ("reduce", S, "x", S, YES), ("reduce", S, "x", S, S, S), ("reduce", S, 1, S, S),
    ("first",), ("first", YES), ("first", S, S), ("take", S), ("take", -1, S), ("take", 100, S), ("take", True, S),
    ("take", False, S), ("take", "1", S), ("take", None, S), ("take", S, 1), ("take", 1, YES), ("take", 1, S, S),
    ("fails",), ("fails", YES), ("fails", S, S),
    ("def", "f", S, S), ("def", "f", [], S, S), ("def", "f", "", S, S), ("def", "f", None, S, S),
    ("def", "f", ("a", "b", "c", "d"), S, S), ("def", "f", ("a", "a"), S, S), ("def", "f", ("a", "b", "a"), S, S),
    ("def", "f", ("each",), S, S), ("def", "f", (1,), S, S), ("def", "f", (["a"],), S, S), ("def", "f", ["a"], S, S),
    ("def", "f", "a", S, S), ("def", "def", (), S, S), ("def", "F", (), S, S), ("def", 1, (), S, S),
    ("def", "f", (), YES, S), ("def", "f", (), S, YES), ("def", "f", (), S), ("def", "f", (), S, S, S),
    ("def", "f", (S,), S, S), ("def", "f", ("abcdefghi",), S, S), ("def", "f", ("",), S, S),
    ("call", "f"), ("call", "f", []), ("call", "f", [S]), ("call", "f", (S, S, S, S)), ("call", "f", S),
    ("call", "f", (YES,)), ("call", "f", (["same"],)), ("call", "f", (None,)), ("call", "or", ()), ("call", "", ()),
    ("call", None, ()), ("call", ("f",), ()), ("call", "f", (), ()), ("call", "f", None), ("call", "f", "same"),
    ("places", LIST), ("places", ("leaf", 1)), ("places", ("pipe", EVERY, LIST)), ("places",), ("places", S, S),
    ("places", YES), ("places", ("first", EVERY)), ("places", ("other", S, ("list", S))),
    ("change", LIST, S), ("change", S), ("change", S, YES), ("change", YES, S), ("change", S, S, S),
    ("change", ("both", S, ("if", YES, S, ("name", "x"))), S), ("drop", LIST), ("drop",), ("drop", S, S),
    ("drop", YES), ("drop", ("try", EVERY)), ("add", S, "a"), ("add", LIST, "a", S), ("add", S, "A", S),
    ("add", S, 1, S), ("add", S, S, "a"), ("add", S, "a", YES), ("add", S, ("field", "a"), S), ("add", S, S),
    ("append", LIST, S), ("append", S), ("append", S, YES), ("append", S, S, S), ("append", ("call", "f", ()), S),
]
NO_TESTS = [
    (), "is", ["is", "yes"], ("is",), ("is", "bool"), ("is", ""), ("is", None), ("is", True), ("is", ("yes",)),
    ("is", ["yes"]), ("is", "yes", "no"), ("is", "Null"), ("is", 0), ("is", "leaf"), ("Is", "yes"),
    ("equal",), ("equal", []), ("equal", {}), ("equal", ()), ("equal", 10 ** 30 + 1), ("equal", "%"),
    ("equal", "a" * 201), ("equal", 1, 1), ("equal", YES),
    ("at", S), ("at", YES, S), ("at", YES, YES), ("at", S, S), ("at", EVERY, YES), ("at", LIST, YES),
    ("at", ("try", S), YES), ("at", ("pipe", A, EVERY), YES), ("at", S, YES, YES), ("at", ["same"], YES),
    ("at", S, ["is", "yes"]), ("at", ("other", S, S), YES), ("at", ("both", S, S), YES),
    ("and", YES), ("and", YES, YES, YES), ("and", S, YES), ("and", YES, S), ("and", (YES, YES)), ("and", [YES, YES]),
    ("or", YES), ("or", S, YES), ("or", YES, S), ("or", YES, YES, YES), ("or", YES, None),
    ("not",), ("not", S), ("not", YES, YES), ("not", ["is", "yes"]), ("not", (YES,)),
]
WALK_WORDS = ("same", "field", "item", "none", "fail", "pipe", "if")
CHOOSER_WORDS = WALK_WORDS + ("every", "both", "try", "other")


KEYS = [one + other for one in "abcdefghijklmnop" for other in "abcdefghijklmnop"]


def tree(word, many, leaf):
    """A term with so many leaves, 2 * many - 1 spots in all, that is not deep."""
    return leaf if many == 1 else (word, tree(word, many // 2, leaf), tree(word, many - many // 2, leaf))


def around(part):
    """Filters in which a part stands at each spot for a filter of any form."""
    return [
        ("pipe", part, S), ("pipe", S, part), ("both", part, S), ("both", S, part), ("if", YES, part, S),
        ("if", YES, S, part), ("other", S, part), ("list", part), ("dict", (("a", S), ("b", part))), ("sum", part, S),
        ("sum", S, part), ("less", part, S), ("less", S, part), ("product", part, S), ("product", S, part),
        ("alike", part, S), ("alike", S, part), ("before", part, S), ("before", S, part), ("as", part, "x", S),
        ("as", S, "x", part), ("when", part, S, S), ("when", S, part, S), ("when", S, S, part), ("catch", part, S),
        ("catch", S, part), ("reduce", part, "x", S, S), ("reduce", S, "x", part, S), ("reduce", S, "x", S, part),
        ("first", part), ("take", 1, part), ("fails", part), ("def", "f", (), part, S), ("def", "f", (), S, part),
        ("call", "f", (part,)), ("call", "f", (S, S, part)), ("change", S, part), ("add", S, "a", part),
        ("append", S, part),
    ]


def around_closed(part):
    """The same, without forms that bind, and with calls of what is bound."""
    rows = [whole for whole in around(part) if whole[0] not in ("as", "reduce", "def", "call")]
    calls = [("call", "g", (part,)), ("call", "g", (S, part)), ("call", "g", (S, S, part))]
    return rows + [("def", "g", ("u", "v", "w")[:len(call[2])], S, call) for call in calls]


class InterfaceTest(unittest.TestCase):
    def test_names_of_arguments(self):
        told = {"is_filter": "value", "is_test": "value", "is_closed": "term", "is_walk": "term", "is_chooser": "term"}
        for name, argument in told.items():
            function = getattr(filters, name)
            self.assertEqual(list(inspect.signature(function).parameters), [argument])
            self.assertEqual(function.__module__, "sieveways.filters")
            self.assertIs(function(**{argument: YES if name == "is_test" else S}), True)


class FilterTest(unittest.TestCase):
    def test_each_form(self):
        for value in FILTERS:
            self.assertIs(is_filter(value), True, value)
            self.assertIs(is_test(value), False, value)

    def test_each_form_with_one_thing_wrong(self):
        for value in NO_FILTERS:
            self.assertIs(is_filter(value), False, value)

    def test_lists_in_the_place_of_tuples(self):
        for value in FILTERS:
            self.assertFalse(is_filter(list(value)))
            self.assertFalse(is_filter(("list", list(value))))

    def test_a_filter_within_each_form(self):
        for inner in FILTERS:
            for value in around(inner):
                self.assertTrue(is_filter(value), value)

    def test_what_is_wrong_is_found_within_each_form(self):
        for inner in NO_FILTERS + TESTS:
            for value in around(inner):
                self.assertFalse(is_filter(value), value)
                self.assertFalse(is_filter(("list", value)), value)

    def test_a_wrong_test_within_an_if(self):
        for inner in NO_TESTS:
            self.assertFalse(is_filter(("if", inner, S, S)), inner)
        for inner in TESTS:
            self.assertTrue(is_filter(("if", inner, S, S)), inner)
            self.assertTrue(is_filter(("try", ("if", inner, S, S))), inner)

    def test_words_of_the_language_are_keys_but_no_free_names(self):
        self.assertEqual(len(WORDS), 32)
        for word in WORDS:
            for value in (("field", word), ("dict", ((word, S),)), ("add", S, word, S)):
                self.assertTrue(is_filter(value), value)
            for value in (("name", word), ("as", S, word, S), ("reduce", S, word, S, S), ("call", word, ()),
                          ("def", word, (), S, S), ("def", "f", ("a", word), S, S)):
                self.assertFalse(is_filter(value), value)

    def test_words_of_forms_are_free_names_if_they_are_none_of_the_language(self):
        for word in ("same", "every", "leaf", "list", "dict", "sum", "pipe", "both", "call", "field", "number", "x"):
            for value in (("name", word), ("as", S, word, S), ("reduce", S, word, S, S), ("call", word, ()),
                          ("def", word, (), S, S), ("def", "f", ("a", word), S, S)):
                self.assertTrue(is_filter(value), value)

    def test_any_value(self):
        for value in any_values():
            told = isinstance(value, tuple) and value == ("same",)
            self.assertIs(is_filter(value), told)
            self.assertIs(is_test(value), False)
            for whole in around(value):
                self.assertIs(is_filter(whole), told)
            for whole in (("field", value), ("as", S, value, S), ("name", value), ("call", value, ()),
                          ("def", value, (), S, S), ("add", S, value, S), ("dict", ((value, S),))):
                self.assertIs(is_filter(whole), isinstance(value, str) and value in ("a", "same"))


class TestTest(unittest.TestCase):
    def test_each_form(self):
        for value in TESTS:
            self.assertIs(is_test(value), True, value)
            self.assertIs(is_filter(value), False, value)

    def test_each_form_with_one_thing_wrong(self):
        for value in NO_TESTS + FILTERS + NO_FILTERS[:20]:
            self.assertIs(is_test(value), False, value)

    def test_what_is_wrong_is_found_within_each_form(self):
        for inner in NO_TESTS + FILTERS:
            for value in (("and", inner, YES), ("and", YES, inner), ("or", inner, YES), ("or", YES, inner),
                          ("not", inner), ("at", S, inner), ("at", ("if", inner, S, S), YES)):
                self.assertIs(is_test(value), False, value)

    def test_a_test_within_each_form(self):
        for inner in TESTS:
            for value in (("and", inner, YES), ("and", YES, inner), ("or", inner, YES), ("or", YES, inner),
                          ("not", inner), ("at", S, inner), ("at", ("if", inner, S, S), YES)):
                self.assertIs(is_test(value), True, value)

    def test_any_value(self):
        for value in any_values():
            self.assertIs(is_test(value), False)
            self.assertIs(is_test(("not", value)), False)
            self.assertIs(is_test(("at", S, value)), False)
            self.assertIs(is_test(("is", value)), False)


class BoundsTest(unittest.TestCase):
    def test_spots(self):
        self.assertTrue(is_filter(("dict", tuple((key, S) for key in KEYS[:199]))))
        self.assertFalse(is_filter(("dict", tuple((key, S) for key in KEYS[:200]))))
        self.assertTrue(is_filter(("dict", tuple((key, ("list", S)) for key in KEYS[:99]))))
        self.assertFalse(is_filter(("dict", tuple((key, ("list", S)) for key in KEYS[:100]))))
        for word in ("pipe", "both", "sum", "catch"):
            self.assertTrue(is_filter(tree(word, 100, S)))
            self.assertTrue(is_filter(("list", tree(word, 100, S))))
            self.assertFalse(is_filter(("list", ("list", tree(word, 100, S)))))

    def test_spots_of_tests_count(self):
        for word in ("and", "or"):
            self.assertTrue(is_test(("not", tree(word, 100, YES))))
            self.assertFalse(is_test(("not", ("not", tree(word, 100, YES)))))
            self.assertTrue(is_filter(("if", tree(word, 99, YES), S, S)))
            self.assertFalse(is_filter(("if", tree(word, 99, YES), S, ("list", S))))
            self.assertFalse(is_filter(("if", tree(word, 100, YES), S, S)))
            self.assertTrue(is_walk(("if", tree(word, 99, YES), S, S)))
            self.assertFalse(is_walk(("if", tree(word, 100, YES), S, S)))

    def test_spots_of_walks_and_choosers(self):
        for word in ("try", "places", "drop"):
            self.assertTrue(is_filter((word, tree("pipe", 100, S))))
            self.assertFalse(is_filter(("list", (word, tree("pipe", 100, S)))))
        self.assertTrue(is_walk(tree("pipe", 100, S)))
        self.assertFalse(is_walk(tree("pipe", 101, S)))
        self.assertTrue(is_chooser(tree("both", 100, S)))
        self.assertFalse(is_chooser(tree("both", 101, S)))
        self.assertTrue(is_test(("at", tree("pipe", 99, S), YES)))
        self.assertFalse(is_test(("at", tree("pipe", 100, S), YES)))

    def test_levels(self):
        for make in (lambda inner: ("list", inner), lambda inner: ("pipe", S, inner), lambda inner: ("pipe", inner, S),
                     lambda inner: ("dict", (("a", inner),)), lambda inner: ("call", "f", (inner,)),
                     lambda inner: ("if", YES, inner, S), lambda inner: ("reduce", S, "x", S, inner)):
            self.assertTrue(is_filter(nested(40, make, S)))
            self.assertFalse(is_filter(nested(41, make, S)))
        self.assertTrue(is_test(nested(40, lambda inner: ("not", inner), YES)))
        self.assertFalse(is_test(nested(41, lambda inner: ("not", inner), YES)))
        self.assertTrue(is_test(nested(40, lambda inner: ("at", S, inner), YES)))
        self.assertFalse(is_test(nested(41, lambda inner: ("at", S, inner), YES)))

    def test_levels_of_tests_within_filters_and_of_walks_within_tests(self):
        for levels, told in ((39, True), (40, False)):
            self.assertIs(is_filter(("if", nested(levels, lambda inner: ("not", inner), YES), S, S)), told)
            self.assertIs(is_test(("at", nested(levels, lambda inner: ("pipe", inner, S), S), YES)), told)
            self.assertIs(is_filter(("try", nested(levels, lambda inner: ("pipe", inner, S), S))), told)
            self.assertIs(is_filter(("places", nested(levels, lambda inner: ("both", inner, S), S))), told)
        self.assertTrue(is_walk(nested(40, lambda inner: ("pipe", inner, S), S)))
        self.assertTrue(is_chooser(nested(40, lambda inner: ("both", inner, S), S)))

    def test_a_value_that_holds_one_part_very_often(self):
        for levels in (30, 150):
            self.assertFalse(is_filter(nested(levels, lambda inner: ("pipe", inner, inner), S)))
            self.assertFalse(is_test(nested(levels, lambda inner: ("and", inner, inner), YES)))


class WalkAndChooserTest(unittest.TestCase):
    def test_forms(self):
        for value in FILTERS:
            inner = [part for part in value[1:] if part in (LIST, EVERY)]
            walk = value[0] in WALK_WORDS and not inner
            chooser = value[0] in CHOOSER_WORDS and LIST not in inner
            self.assertIs(is_walk(value), walk, value)
            self.assertIs(is_chooser(value), chooser, value)

    def test_parts(self):
        for part in FILTERS:
            for value in (("pipe", part, S), ("pipe", S, part), ("if", YES, part, S), ("if", YES, S, part)):
                self.assertIs(is_walk(value), is_walk(part))
                self.assertIs(is_chooser(value), is_chooser(part))
                self.assertIs(is_walk(("pipe", ("pipe", A, value), A)), is_walk(part))
            for value in (("both", part, S), ("both", S, part), ("other", S, part)):
                self.assertIs(is_walk(value), False)
                self.assertIs(is_chooser(value), is_chooser(part))
                self.assertIs(is_chooser(("both", ("pipe", A, value), A)), is_chooser(part))
            self.assertIs(is_filter(("try", part)), is_walk(part))
            self.assertIs(is_chooser(("try", part)), is_walk(part))
            self.assertIs(is_filter(("other", part, S)), is_walk(part))
            self.assertIs(is_chooser(("other", part, S)), is_walk(part))
            for value in (("places", part), ("drop", part), ("change", part, LIST), ("add", part, "a", LIST),
                          ("append", part, LIST)):
                self.assertIs(is_filter(value), is_chooser(part))
                self.assertIs(is_chooser(value), False)
            self.assertIs(is_test(("at", part, YES)), is_walk(part))

    def test_what_is_no_filter(self):
        for value in NO_FILTERS + TESTS:
            self.assertFalse(is_walk(value), value)
            self.assertFalse(is_chooser(value), value)


class ClosedTest(unittest.TestCase):
    def check(self, term, told):
        self.assertTrue(is_filter(term), term)
        self.assertIs(is_closed(term), told, term)
        for whole in around_closed(term):
            self.assertIs(is_closed(whole), told, whole)

    def test_without_names(self):
        for term in (S, A, EVERY, ("dict", ()), ("if", ("at", A, YES), S, LIST), ("drop", EVERY)):
            self.check(term, True)

    def test_as(self):
        x = ("name", "x")
        self.check(x, False)
        self.check(("as", S, "x", x), True)
        self.check(("as", x, "x", S), False)
        self.check(("as", S, "y", x), False)
        self.check(("as", S, "x", ("pipe", ("list", x), x)), True)
        self.check(("pipe", ("as", S, "x", x), x), False)
        self.check(("as", ("as", S, "x", x), "y", x), False)
        self.check(("as", S, "x", ("as", x, "y", ("sum", x, ("name", "y")))), True)
        self.check(("as", S, "x", ("as", x, "x", x)), True)
        self.check(("as", ("as", x, "x", x), "x", x), False)

    def test_reduce(self):
        x = ("name", "x")
        self.check(("reduce", EVERY, "x", S, x), True)
        self.check(("reduce", EVERY, "x", x, S), False)
        self.check(("reduce", x, "x", S, S), False)
        self.check(("reduce", EVERY, "y", S, x), False)
        self.check(("as", S, "x", ("reduce", x, "y", x, ("sum", x, ("name", "y")))), True)
        self.check(("reduce", EVERY, "x", S, ("reduce", x, "y", x, x)), True)
        self.check(("reduce", EVERY, "x", S, ("as", ("name", "y"), "y", S)), False)

    def test_names_within_each_form(self):
        for inner in around_closed(("name", "q")):
            self.assertFalse(is_closed(inner), inner)
            self.assertTrue(is_closed(("as", S, "q", inner)), inner)
            self.assertTrue(is_closed(("reduce", S, "q", S, inner)), inner)
            self.assertFalse(is_closed(("as", inner, "q", S)), inner)

    def test_def_binds_in_both_filters(self):
        call = ("call", "f", ())
        self.check(call, False)
        self.check(("def", "f", (), S, call), True)
        self.check(("def", "f", (), call, S), True)
        self.check(("def", "f", (), call, call), True)
        self.check(("def", "g", (), call, S), False)
        self.check(("def", "g", (), S, call), False)
        self.check(("pipe", ("def", "f", (), S, call), call), False)

    def test_calls_with_another_number_of_filters(self):
        for many in range(4):
            names = ("x", "y", "z")[:many]
            for given in range(4):
                call = ("call", "f", (S, A, LIST)[:given])
                self.check(("def", "f", names, S, call), given == many)
                self.check(("def", "f", names, call, S), given == many)
                self.check(("def", "f", names, S, ("def", "g", (), call, call)), given == many)

    def test_names_in_parentheses(self):
        call = ("call", "x", ())
        self.check(("def", "f", ("x",), call, S), True)
        self.check(("def", "f", ("y", "x"), call, S), True)
        self.check(("def", "f", ("x",), S, call), False)
        self.check(("def", "f", ("x",), ("call", "x", (S,)), S), False)
        self.check(("def", "f", ("x",), ("name", "x"), S), False)
        self.check(("def", "f", ("x",), ("def", "g", (), call, call), S), True)
        self.check(("def", "f", ("x",), ("call", "f", (call,)), ("call", "f", (S,))), True)
        self.check(("def", "f", ("x",), S, ("call", "f", (call,))), False)

    def test_a_name_in_parentheses_hides_the_name_of_its_def(self):
        self.check(("def", "f", ("f",), ("call", "f", ()), S), True)
        self.check(("def", "f", ("f",), ("call", "f", (S,)), S), False)
        self.check(("def", "f", ("f",), S, ("call", "f", (S,))), True)
        self.check(("def", "f", ("f",), S, ("call", "f", ())), False)

    def test_inner_names_hide_outer_ones(self):
        one, two = ("call", "f", (S,)), ("call", "f", (S, S))
        inner = ("def", "f", ("a", "b"), S, one)
        self.check(("def", "f", ("a",), S, inner), False)
        self.check(("def", "f", ("a",), S, ("def", "f", ("a", "b"), two, two)), True)
        self.check(("def", "f", ("a",), S, ("def", "f", ("a", "b"), one, S)), False)
        self.check(("def", "f", ("a",), ("def", "f", ("a", "b"), S, two), one), True)
        self.check(("def", "f", ("a",), ("def", "f", ("a", "b"), S, two), two), False)
        self.check(("def", "f", ("a",), S, ("pipe", ("def", "f", ("a", "b"), S, two), one)), True)
        self.check(("def", "f", ("a",), S, ("def", "g", ("f",), one, S)), False)
        self.check(("def", "f", ("a",), S, ("def", "g", ("f",), ("call", "f", ()), one)), True)
        self.check(("def", "f", ("a",), S, ("def", "g", ("f",), S, ("call", "f", ()))), False)

    def test_names_and_calls_are_told_apart(self):
        self.check(("as", S, "x", ("call", "x", ())), False)
        self.check(("def", "x", (), S, ("name", "x")), False)
        self.check(("as", S, "x", ("def", "x", (), ("name", "x"), ("sum", ("name", "x"), ("call", "x", ())))), True)

    def test_names_are_bound_within_definitions_and_what_is_handed_in(self):
        x = ("name", "x")
        self.check(("as", S, "x", ("def", "f", ("a",), x, ("call", "f", (x,)))), True)
        self.check(("def", "f", ("a",), x, ("as", S, "x", ("call", "f", (x,)))), False)
        self.check(("def", "f", (), ("call", "g", ()), ("def", "g", (), S, ("call", "f", ()))), False)


if __name__ == "__main__":
    unittest.main()

"""Promise 60: which values are shapes."""

import inspect
import unittest

from sieveways import formulas
from sieveways.formulas import is_shape
from tests.test_filters import FILTERS, NO_FILTERS, WORDS
from sieveways.filters import is_chooser
from tests.values import any_values, nested

S = ("same",)
ANY = ("any",)
SHAPES = [
    ANY, ("is", "null"), ("is", "no"), ("is", "yes"), ("is", "number"), ("is", "text"), ("is", "list"), ("is", "dict"),
    ("equal", None), ("equal", True), ("equal", False), ("equal", -5), ("equal", 10 ** 30), ("equal", ""), ("equal", "a" * 200),
    ("key", "a", ANY), ("key", "abcdefgh", ANY), ("key", "each", ANY), ("item", 0, ANY), ("item", 99, ANY), ("each", ANY),
    ("least", 0), ("least", 4), ("and", ANY, ANY), ("or", ANY, ("not", ANY)), ("not", ANY), ("name", "tree"), ("name", "any"),
    ("all", S, ANY), ("some", ("pipe", ("every",), ("field", "a")), ANY), ("all", ("other", ("none",), ("every",)), ("name", "x")),
]
NO_SHAPES = [
    (), "any", ["any"], ("any", 1), ("Any",), ("",), (None,), (ANY,), ("any", ANY), ("list", ANY), ("same",), ("every",),
    ("is",), ("is", "bool"), ("is", None), ("is", True), ("is", ["null"]), ("is", ("null",)), ("is", "null", "no"), ["is", "null"],
    ("equal",), ("equal", []), ("equal", {}), ("equal", ()), ("equal", 10 ** 30 + 1), ("equal", "%"), ("equal", "a" * 201),
    ("equal", 1, 1), ("key",), ("key", "a"), ("key", ANY), ("key", "A", ANY), ("key", "", ANY), ("key", "abcdefghi", ANY),
    ("key", 0, ANY), ("key", None, ANY), ("key", ["a"], ANY), ("key", "a", ANY, ANY), ("key", ANY, "a"), ("key", "a", None),
    ("item", 0), ("item", -1, ANY), ("item", 100, ANY), ("item", True, ANY), ("item", False, ANY), ("item", "0", ANY),
    ("item", None, ANY), ("item", 10 ** 99, ANY), ("item", 0, ANY, ANY), ("each",), ("each", ANY, ANY), ("each", ["any"]),
    ("least",), ("least", -1), ("least", 5), ("least", True), ("least", False), ("least", "1"), ("least", ANY), ("least", 1, 1),
    ("least", None), ("and", ANY), ("and", ANY, ANY, ANY), ("and", (ANY, ANY)), ("or", ANY), ("or", ANY, None), ("or", [ANY, ANY]),
    ("not",), ("not", ANY, ANY), ("not", None), ("name",), ("name", "X"), ("name", 1), ("name", ""), ("name", "abcdefghi"),
    ("name", ["x"]), ("name", "x", "y"), ("all", S), ("all", ANY, ANY), ("all", S, S), ("all", ("list", S), ANY),
    ("all", ("pipe", S, ("leaf", 1)), ANY), ("all", ["same"], ANY), ("all", S, ANY, ANY), ("all", None, ANY), ("some", S),
    ("some", ("is", "yes"), ANY), ("some", ("first", S), ANY), ("some", S, None), ("some", ANY, S), ("some", (), ANY),
]


def around(shape):
    """A shape in each form that has one within."""
    return [
        ("key", "a", shape), ("item", 3, shape), ("each", shape), ("and", shape, ANY), ("and", ANY, shape), ("or", shape, ANY),
        ("or", ANY, shape), ("not", shape), ("all", S, shape), ("some", S, shape),
    ]


class ShapeTest(unittest.TestCase):
    def test_names_of_arguments(self):
        self.assertEqual(list(inspect.signature(is_shape).parameters), ["value"])
        self.assertEqual(formulas.is_shape.__module__, "sieveways.formulas")
        self.assertIs(is_shape(value=ANY), True)

    def test_each_form(self):
        for shape in SHAPES:
            self.assertIs(is_shape(shape), True, shape)
            for whole in around(shape):
                self.assertIs(is_shape(whole), True, whole)

    def test_each_form_with_one_thing_wrong(self):
        for shape in NO_SHAPES:
            self.assertIs(is_shape(shape), False, shape)
            for whole in around(shape):
                self.assertIs(is_shape(whole), False, whole)
                self.assertIs(is_shape(("not", whole)), False, whole)

    def test_lists_in_the_place_of_tuples(self):
        for shape in SHAPES:
            self.assertIs(is_shape(list(shape)), False, shape)
            self.assertIs(is_shape(("each", list(shape))), False, shape)

    def test_numbers(self):
        for number in range(100):
            self.assertIs(is_shape(("item", number, ANY)), True)
            self.assertIs(is_shape(("least", number)), number <= 4)

    def test_words_of_the_language(self):
        for word in WORDS:
            self.assertIs(is_shape(("name", word)), False, word)
            self.assertIs(is_shape(("key", word, ANY)), True, word)

    def test_choosers(self):
        for term in FILTERS + NO_FILTERS:
            for word in ("all", "some"):
                self.assertIs(is_shape((word, term, ANY)), is_chooser(term), term)

    def test_depth(self):
        for make in (lambda inner: around(inner)[0], lambda inner: ("not", inner), lambda inner: ("all", S, inner),
                     lambda inner: ("and", ANY, inner), lambda inner: ("or", inner, ANY)):
            self.assertIs(is_shape(nested(40, make, ANY)), True)
            self.assertIs(is_shape(nested(41, make, ANY)), False)
        # Choosers in a shape are looked at by themselves.
        deep = nested(40, lambda inner: ("pipe", inner, S), S)
        self.assertIs(is_shape(nested(40, lambda inner: ("all", deep, inner), ANY)), True)
        self.assertIs(is_shape(("all", ("pipe", S, deep), ANY)), False)
        wide = nested(8, lambda inner: ("and", inner, inner), ANY)
        self.assertIs(is_shape(wide), True)

    def test_any_value(self):
        values = any_values() + [nested(150, lambda inner: ("and", inner, inner), ANY), nested(150, lambda inner: ("each", inner), ANY),
                                 nested(149, lambda inner: (inner, inner)), ("equal", nested(149)), ("all", nested(149), ANY)]
        for value in values:
            self.assertIs(is_shape(value), False)
            for whole in around(value):
                self.assertIs(is_shape(whole), False)
            for whole in (("name", value), ("key", value, ANY)):
                self.assertIs(is_shape(whole), isinstance(value, str) and value in ("a", "same"))
            for whole in (("is", value), ("least", value), ("item", value, ANY), ("all", value, ANY)):
                right = value == ("same",) if whole[0] == "all" else type(value) is int and 0 <= value <= (4 if whole[0] == "least" else 99)
                self.assertIs(is_shape(whole), whole[0] != "is" and right and not isinstance(value, list))


if __name__ == "__main__":
    unittest.main()

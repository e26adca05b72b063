"""Promises 90 and 91: books of filters and shapes with names, plain filters, and runs in a book."""

import inspect
import unittest

from sieveways.books import Book
from sieveways.errors import (
    Endless, InvalidDatum, InvalidEntry, InvalidLimit, InvalidName, NoName, Standing, TooGreat, Unknown,
)
from sieveways.filters import is_closed, is_filter
from sieveways.formulas import is_shape
from sieveways.runs import tell
from sieveways.shapes import Shapes
from sieveways.spots import spots
from tests.plain_runs import FilterMaker
from tests.test_filters import FILTERS, NO_FILTERS
from tests.test_formulas import NO_SHAPES
from tests.test_runs import DATA
from tests.values import any_values, nested, shown

S = ("same",)
A = ("field", "a")
E = ("every",)
NONE = ("none",)
FAIL = ("fail",)
X = ("name", "x")
ANY = ("any",)
ONE = ("leaf", 1)


def call(name, *handed):
    return ("call", name, handed)


def depth(term):
    return max(len(spot) for spot in spots(term)) + 1


class InterfaceTest(unittest.TestCase):
    def test_names_of_arguments(self):
        self.assertEqual(list(inspect.signature(Book).parameters), ["filters", "shapes"])
        for name in ("filter", "shape", "plain"):
            self.assertEqual(list(inspect.signature(getattr(Book, name)).parameters), ["self", "name"])
        *told, last = inspect.signature(Book.tell).parameters.values()
        self.assertEqual([parameter.name for parameter in told], ["self", "name", "datum"])
        self.assertEqual(last, inspect.Parameter("limit", inspect.Parameter.KEYWORD_ONLY, default=1000))
        for name in ("filters", "shapes"):
            self.assertIsInstance(vars(Book)[name], property)
        for name in ("__iter__", "__eq__", "filter", "shape", "plain", "tell"):
            self.assertIn(name, vars(Book))
        self.assertEqual(Book.__module__, "sieveways.books")

    def test_by_name(self):
        book = Book(filters={"f": S}, shapes={"s": ANY})
        self.assertEqual((book.filter(name="f"), book.shape(name="s"), book.plain(name="f")), (S, ANY, S))
        self.assertEqual(book.tell(name="f", datum=5, limit=3).outcomes, (5,))
        self.assertRaises(TypeError, book.tell, "f", 5, 3)


class BookTest(unittest.TestCase):
    def test_content(self):
        filters = {"g": call("f"), "f": S, "ff": E}
        shapes = {"t": ("name", "f"), "f": ANY}
        book = Book(filters, shapes)
        self.assertEqual((book.filters, book.shapes), (filters, shapes))
        self.assertEqual((list(book), list(book)), (["f", "ff", "g", "f", "t"],) * 2)
        self.assertEqual([book.filter("g"), book.shape("t"), book.filter("f"), book.shape("f")], [call("f"), ("name", "f"), S, ANY])
        self.assertEqual((list(Book({}, {})), Book({}, {}).filters, Book({}, {}).shapes), ([], {}, {}))

    def test_nothing_is_shared(self):
        filters, shapes = {"f": S}, {"s": ANY}
        book = Book(filters, shapes)
        filters["g"] = E
        del shapes["s"]
        book.filters["h"] = E
        book.shapes.clear()
        self.assertEqual((book.filters, book.shapes, list(book)), ({"f": S}, {"s": ANY}, ["f", "s"]))
        self.assertEqual((filters, shapes), ({"f": S, "g": E}, {}))

    def test_equal(self):
        books = [
            ({}, {}), ({"f": S}, {}), ({}, {"f": ANY}), ({"f": E}, {}), ({"g": S}, {}), ({"f": S, "g": S}, {}), ({"f": ("leaf", 1)}, {}),
            ({"f": ("leaf", True)}, {}), ({"f": ("leaf", 0)}, {}), ({"f": ("leaf", False)}, {}), ({"f": S}, {"f": ANY}), ({}, {"f": ("equal", 1)}),
            ({}, {"f": ("equal", True)}), ({"f": ("item", 1)}, {}), ({"f": ("take", 1, S)}, {}), ({"f": ("take", 0, S)}, {}),
        ]
        for one in books:
            for other in books:
                self.assertIs(Book(*one) == Book(dict(other[0]), dict(other[1])), one is other, (one, other))
                self.assertIs(Book(*one) != Book(*other), one is not other)
        self.assertEqual(Book({"f": S, "g": E}, {"s": ANY, "t": ANY}), Book({"g": E, "f": S}, {"t": ANY, "s": ANY}))
        for value in any_values() + [({"f": S}, {}), {"f": S}, Shapes({})]:
            self.assertIs(Book({"f": S}, {}) == value, False)
        self.assertIs(Book({}, {}) == Shapes({}), False)
        self.assertIs(Shapes({}) == Book({}, {}), False)


class ErrorsTest(unittest.TestCase):
    def check(self, filters, shapes, error, kind, *values):
        with self.assertRaises(error) as caught:
            Book(filters, shapes)
        self.assertIs(caught.exception.__class__, error)
        self.assertIsInstance(caught.exception, kind)
        self.assertEqual(shown(list(vars(caught.exception).values())), shown(list(values)), (filters, shapes))

    def test_names(self):
        for value in [None, True, 0, 5, "", "A", "abcdefghi", "each", "def", "null", "is", (), ("f",), Endless("f")]:
            self.check({value: S}, {}, InvalidName, ValueError, value)
            self.check({}, {value: ANY}, InvalidName, ValueError, value)
            self.check({"z": None, value: S, 7: S}, {8: ANY}, InvalidName, ValueError, value)
            self.check({"a": call("q")}, {"z": None, value: ANY, 7: ANY}, InvalidName, ValueError, value)
        self.check({"a": S, "in": S}, {"or": ANY}, InvalidName, ValueError, "in")

    def test_entries(self):
        for value in any_values() + NO_FILTERS:
            if not is_filter(value):
                self.check({"z": S, "c": value, "b": call("q"), "d": None}, {"a": None}, InvalidEntry, ValueError, "c")
        for value in any_values() + NO_SHAPES:
            if not is_shape(value):
                self.check({"z": call("q")}, {"z": ANY, "c": value, "b": ("name", "b"), "d": None}, InvalidEntry, ValueError, "c")
        self.check({"z": None}, {"a": None}, InvalidEntry, ValueError, "z")
        self.check({"f": nested(41, lambda inner: ("first", inner), S)}, {}, InvalidEntry, ValueError, "f")
        self.check({"f": ("is", "list")}, {}, InvalidEntry, ValueError, "f")
        self.check({}, {"f": S}, InvalidEntry, ValueError, "f")

    def test_unknown_calls(self):
        rows = [
            (call("q"), "q"), (X, "x"), (("both", S, ("pipe", call("r"), call("q"))), "r"), (("both", X, call("q")), "x"), (call("g", S), "g"),
            (("both", call("g"), call("g", S)), "g"), (("as", X, "x", X), "x"), (("reduce", S, "x", X, X), "x"),
            (("def", "h", ("u",), call("u"), call("u")), "u"), (("def", "h", ("u",), call("v"), call("w")), "v"),
            (("def", "h", (), S, call("h", S)), "h"), (("def", "h", ("u",), S, call("h")), "h"), (("def", "h", ("u",), call("u", S), S), "u"),
            # A def around has the name, with another number of filters: it is not bound, also if the book has it.
            (("def", "g", ("u",), S, call("g")), "g"), (("def", "g", ("u",), call("g"), S), "g"), (("def", "h", ("g",), call("g", S), S), "g"),
            (("def", "g", (), S, call("g", S)), "g"), (("both", ("def", "g", ("u",), S, call("g")), call("q")), "g"),
            (("list", ("def", "h", ("u",), ("both", call("u"), call("q")), call("h", call("r")))), "q"),
        ]
        for term, word in rows:
            self.check({"g": S, "f": term}, {}, Unknown, LookupError, "f", word)
            self.check({"g": S, "f": term, "z": X}, {"a": ("name", "q")}, Unknown, LookupError, "f", word)
        self.check({"z": S}, {"b": ("name", "z"), "c": ("name", "q")}, Unknown, LookupError, "b", "z")
        self.check({"g": call("s")}, {"s": ("name", "q")}, Unknown, LookupError, "g", "s")
        self.check({}, {"b": ("and", ("key", "k", ("name", "c")), ("name", "d")), "d": ANY}, Unknown, LookupError, "b", "c")

    def test_what_is_bound(self):
        rows = [
            call("g"), call("f"), ("both", call("f"), call("g")), ("def", "h", ("u",), ("both", call("u"), call("g")), call("h", call("f"))),
            ("def", "g", ("u",), call("u"), call("g", call("h"))), ("def", "h", ("g",), call("g"), call("g")), ("as", call("g"), "x", X),
            ("def", "g", (), S, call("g")), ("both", ("def", "g", ("u",), S, call("g", S)), call("g")),
        ]
        for term in rows:
            self.assertEqual(Book({"f": term, "g": S, "h": S}, {}).filter("f"), term)

    def test_standing(self):
        self.check({}, {"a": ("name", "a")}, Standing, ValueError, "a")
        self.check({}, {"b": ("not", ("name", "c")), "c": ("or", ANY, ("name", "b")), "a": ("name", "b")}, Standing, ValueError, "b")
        self.check({}, {"a": ("all", E, ("each", ("name", "b"))), "b": ("key", "k", ("name", "a"))}, Standing, ValueError, "b")
        self.assertEqual(list(Book({}, {"a": ("key", "k", ("name", "a"))})), ["a"])


class NoNameTest(unittest.TestCase):
    def test_any_value(self):
        book = Book({"f": S, "only": S}, {"f": ANY, "s": ANY})
        for value in any_values() + ["g", "F", ("f",), ["f"], {"f": 1}]:
            for told in (book.filter, book.shape, book.plain, lambda name: book.tell(name, None), lambda name: book.tell(name, (), limit=-1)):
                with self.assertRaises(NoName) as caught:
                    told(value)
                self.assertIs(caught.exception.value, value)
                self.assertIsInstance(caught.exception, LookupError)
        self.assertRaises(NoName, book.filter, "s")
        self.assertRaises(NoName, book.plain, "s")
        self.assertRaises(NoName, book.tell, "s", 1)
        self.assertRaises(NoName, book.shape, "only")


class PlainTest(unittest.TestCase):
    def test_plain_filters(self):
        book = Book({
            "a": S, "b": ("pipe", call("a"), call("a")), "c": ("def", "a", (), call("b"), ("both", call("a"), call("b"))),
            "d": ("def", "h", ("b",), ("both", call("b"), call("a")), call("h", call("c"))), "e": ("dict", (("k", call("b")), ("l", call("a")))),
            "g": ("reduce", call("a"), "x", call("b"), ("sum", X, call("a"))),
        }, {})
        two = ("pipe", S, S)
        c = ("def", "a", (), two, ("both", call("a"), two))
        self.assertEqual(book.plain("a"), S)
        self.assertEqual(book.plain("b"), two)
        self.assertEqual(book.plain("c"), c)
        self.assertEqual(book.plain("d"), ("def", "h", ("b",), ("both", call("b"), S), call("h", c)))
        self.assertEqual(book.plain("e"), ("dict", (("k", two), ("l", S))))
        self.assertEqual(book.plain("g"), ("reduce", S, "x", two, ("sum", X, S)))
        for name in "abcdeg":
            self.assertIs(is_closed(book.plain(name)), True)

    def endless(self, filters, asked, told):
        with self.assertRaises(Endless) as caught:
            Book(filters, {}).plain(asked)
        self.assertEqual((caught.exception.name, isinstance(caught.exception, ValueError)), (told, True))

    def test_endless(self):
        self.endless({"f": call("f")}, "f", "f")
        self.endless({"f": ("list", ("both", S, call("f")))}, "f", "f")
        self.endless({"f": call("g"), "g": call("f")}, "f", "f")
        self.endless({"f": call("g"), "g": call("f")}, "g", "g")
        self.endless({"f": call("g"), "g": call("g")}, "f", "g")
        self.endless({"f": ("both", call("g"), call("f")), "g": call("h"), "h": call("g")}, "f", "g")
        self.endless({"f": ("both", call("h"), call("f")), "h": S}, "f", "f")
        self.endless({"f": ("both", call("h"), call("g")), "h": call("k"), "k": S, "g": ("both", call("k"), call("f"))}, "f", "f")
        self.endless({"f": ("pipe", call("a"), call("b")), "a": ("pipe", call("b"), call("c")), "b": call("c"), "c": ("both", S, call("a"))}, "f", "a")
        self.assertEqual(Book({"f": S, "l": call("l")}, {}).plain("f"), S)
        # A def that calls itself is no call of the book.
        self.assertEqual(Book({"f": ("def", "f", (), call("f"), call("f"))}, {}).plain("f"), ("def", "f", (), call("f"), call("f")))

    def too_great(self, filters, name):
        with self.assertRaises(TooGreat) as caught:
            Book(filters, {}).plain(name)
        self.assertEqual((caught.exception.name, isinstance(caught.exception, ValueError)), (name, True))

    def test_too_great(self):
        doubled = {"a": S}
        letters = "abcdefghijklmnopqrstuvwxyz"
        for one, other in zip(letters, letters[1:]):
            doubled[other] = ("both", call(one), call(one))
        book = Book(doubled, {})
        for number, name in enumerate(letters):
            if number < 7:
                self.assertEqual(len(list(spots(book.plain(name)))), 2 ** (number + 1) - 1)
            else:
                self.too_great(doubled, name)
        wide = {"a": S}
        for number in range(300):
            wide[f"b{chr(97 + number // 26)}{chr(97 + number % 26)}"] = S
        self.assertEqual(Book(wide, {}).plain("a"), S)
        term = nested(38, lambda inner: ("first", inner), call("g"))
        self.assertEqual(depth(Book({"f": term, "g": ("first", ("first", S))}, {}).plain("f")), 40)
        self.too_great({"f": term, "g": ("first", ("first", ("first", S)))}, "f")
        self.too_great({"f": ("list", call("g")), "g": nested(40, lambda inner: ("first", inner), S)}, "f")
        row = lambda many: nested(many, lambda inner: ("both", S, inner), S)
        three = ("both", call("g"), ("both", call("g"), call("g")))
        self.too_great({"f": three, "g": row(34)}, "f")
        self.assertEqual(len(list(spots(Book({"f": three, "g": row(33)}, {}).plain("f")))), 197)
        exact = ("both", ("first", call("g")), ("both", ("first", call("g")), ("first", call("g"))))
        self.assertEqual(len(list(spots(Book({"f": exact, "g": row(33)}, {}).plain("f")))), 200)
        self.too_great({"f": ("first", exact), "g": row(33)}, "f")

    def test_endless_ahead_of_too_great(self):
        filters = {"a": call("b"), "b": ("both", call("c"), call("a")), "c": nested(40, lambda inner: ("first", inner), S)}
        self.endless(filters, "a", "a")
        self.too_great(filters | {"b": ("first", call("c"))}, "a")

    def test_long_chains(self):
        names = [one + two for one in "abcdefghijklmnopqrstuvwxyz" for two in "abcdefghijklmnopqrstuvwxyz" if one + two not in ("as", "at", "if", "in", "is", "no", "or")]
        chain = {name: call(further) for name, further in zip(names, names[1:])} | {names[-1]: A}
        self.assertEqual(Book(chain, {}).plain(names[0]), A)
        self.endless(chain | {names[-1]: call(names[5])}, names[0], names[5])
        doubled = {name: ("both", call(further), call(further)) for name, further in zip(names, names[1:])} | {names[-1]: A}
        self.too_great(doubled, names[0])


class TellTest(unittest.TestCase):
    def test_filters_that_call_one_another_and_themselves(self):
        book = Book({
            "deep": ("both", S, ("pipe", E, call("deep"))), "even": ("if", ("equal", 0), ("leaf", True), ("pipe", ("less", S, ONE), call("odd"))),
            "odd": ("if", ("equal", 0), ("leaf", False), ("pipe", ("less", S, ONE), call("even"))),
        }, {})
        told = book.tell("deep", [[], [[]]])
        self.assertEqual((told.outcomes, told.ending, told.failure), (([[], [[]]], [], [[]], []), "done", None))
        self.assertEqual(told.events[:4], (("call", "deep"), ("branch", 0), ("branch", 1), ("part", 0)))
        self.assertEqual([book.tell("even", number).outcomes for number in range(4)], [(True,), (False,), (True,), (False,)])
        self.assertEqual(book.tell("odd", 401).ending, "limit")
        self.assertEqual(book.tell("odd", 401, limit=2000).outcomes, (True,))
        self.assertEqual(len(book.tell("odd", 401).events), 1000)
        self.assertEqual(book.tell("even", 0, limit=0), tell(("def", "even", (), S, call("even")), 0, limit=0))
        self.assertEqual((book.tell("even", 0, limit=1).ending, book.tell("even", 0, limit=2).ending), ("limit", "done"))

    def test_names_that_a_def_hides(self):
        book = Book({
            "g": ("leaf", 5), "f": ("def", "g", (), ONE, ("both", call("g"), call("h"))), "h": call("g"), "k": ("def", "u", ("g",), ("both", call("g"), call("h")), call("u", S)),
            "l": ("as", ("leaf", 7), "x", ("both", call("g"), X)), "m": ("def", "f", (), S, ("pipe", call("l"), call("f"))),
        }, {})
        # What is called by a filter of the book is what the book has.
        self.assertEqual(book.tell("f", 0).outcomes, (1, 5))
        self.assertEqual(book.tell("k", 0).outcomes, (0, 5))
        self.assertEqual(book.tell("l", 0).outcomes, (5, 7))
        self.assertEqual(book.tell("m", 0).outcomes, (5, 7))

    def test_errors_in_order(self):
        book = Book({"f": S}, {})
        for value in any_values() + [(), {1: 2}, "%", nested(61)]:
            try:
                book.tell("f", value, limit=-1)
            except InvalidDatum as error:
                self.assertIs(error.value, value)
            except InvalidLimit as error:
                self.assertEqual(error.value, -1)
            else:
                self.fail(value)
        for value in [None, True, -1, 2001, "5", 10 ** 99, [5]]:
            with self.assertRaises(InvalidLimit) as caught:
                book.tell("f", 1, limit=value)
            self.assertIs(caught.exception.value, value)
        self.assertRaises(NoName, book.tell, "g", (), limit=-1)

    def test_the_same_of_a_plain_filter(self):
        """The run of a plain filter is that in the book, but for the calls."""
        many = 0
        for seed in range(300):
            maker = FilterMaker(seed)
            names = ["f", "g", "h"]
            filters = {}
            for number, name in enumerate(names):
                known = tuple((other, 0) for other in names[:number])
                filters[name] = maker.filter(maker.random.randint(1, 14), (), known)
            if not all(is_filter(term) for term in filters.values()):
                continue
            book = Book(filters, {})
            for name in names:
                try:
                    plain = book.plain(name)
                except TooGreat:
                    continue
                for datum in DATA:
                    told, other = book.tell(name, datum), tell(plain, datum)
                    if "limit" not in (told.ending, other.ending):
                        many += 1
                        self.assertEqual(shown((told.outcomes, told.ending, told.failure)), shown((other.outcomes, other.ending, other.failure)), (filters, name))
        self.assertGreater(many, 2000)

    def test_arguments_stay_as_they_were(self):
        datum = {"b": [[1], 2], "a": {"c": []}}
        before = shown(datum)
        book = Book({"f": ("both", S, ("change", ("field", "b"), call("g"))), "g": S}, {})
        told = book.tell("f", datum)
        told.outcomes[0]["b"].append(5)
        self.assertEqual((shown(datum), list(datum)), (before, ["b", "a"]))
        self.assertEqual(shown(told.outcomes[0]), before)

    def test_each_filter_of_the_document(self):
        for term in FILTERS:
            if is_closed(term):
                book = Book({"f": term}, {})
                self.assertEqual(book.plain("f"), term)
                for datum in (1, [1], {"a": [1]}):
                    told, other = book.tell("f", datum, limit=101), tell(term, datum, limit=100)
                    self.assertEqual((told.outcomes, told.ending, told.events[1:]), (other.outcomes, other.ending, other.events))


if __name__ == "__main__":
    unittest.main()

"""Promises 1 to 3 over the whole program: the interface, calls by name, arguments that stay, equal calls, new results."""

import copy
import importlib
import inspect
import unittest

from sieveways.books import Book
from sieveways.code import Code, code_of
from sieveways.filters import is_chooser, is_closed, is_filter
from sieveways.houses import GuardedHouse, House
from sieveways.machine import Machine
from sieveways.runs import Run, tell
from sieveways.shapes import Shapes
from sieveways.texts import read_term, write_term
from sieveways.ways import ways
from tests.plain_machine import random_choosers
from tests.plain_texts import laid_out
from tests.test_runs import DATA, random_filters
from tests.values import shown

A = ("field", "a")
E = ("every",)
S = ("same",)
YES = ("is", "yes")
ANY = ("any",)
PUT = ("change", A, ("leaf", 2))
# All functions of the interface: their arguments in order, each with a right value.
FUNCTIONS = {
    "data": {
        "is_datum": {"value": [1]}, "sort_of": {"datum": [1]}, "parts_of": {"datum": [1, {"b": 2, "a": 1}]}, "depth_of": {"datum": [1]},
        "alike": {"one": [1], "other": [True]}, "comes_before": {"one": [1], "other": [2]}, "places": {"datum": {"b": [1], "a": 2}},
        "part_at": {"datum": {"b": [1]}, "place": ("b",)}, "with_part": {"datum": {"b": [1]}, "place": ("b", 0), "part": [2]},
        "without": {"datum": {"b": [1]}, "place": ("b",)}, "begins": {"one": ("a",), "other": ("a", 0)},
    },
    "filters": {"is_filter": {"value": S}, "is_test": {"value": YES}, "is_closed": {"term": S}, "is_walk": {"term": A}, "is_chooser": {"term": E}},
    "choosers": {"holds": {"test": ("equal", 1), "datum": 1}, "chosen": {"term": E, "datum": {"b": 1, "a": 2}}},
    "spots": {"spots": {"term": ("pipe", A, E)}, "part_at_spot": {"term": ("pipe", A, E), "spot": (1,)}, "with_spot": {"term": ("pipe", A, E), "spot": (1,), "part": S}},
    "sketches": {
        "answers": {"f": A, "g": E, "sketch": ("hole",), "place": (), "question": ("sort",)}, "sketched": {"f": A, "g": E, "sketch": ("hole",)},
    },
    "likeness": {
        "likeness": {"f": A, "g": ("pipe", S, A)}, "row_of": {"f": E, "datum": [1]}, "parting": {"f": A, "g": E}, "are_alike": {"f": A, "g": E},
        "places_within": {"f": E, "g": A}, "is_likeness": {"f": S, "g": S, "value": ("row", ((),), True)}, "needless": {"f": ("pipe", S, A)}, "thinned": {"f": ("pipe", S, A)},
    },
    "deeds": {
        "deeds": {"term": PUT, "datum": {"a": [1]}}, "done": {"datum": {"a": [1]}, "deeds": [("put", ("a",), [1], 2)]},
        "taken_back": {"datum": {"a": 2}, "deeds": (("put", ("a",), [1], 2),)}, "is_deeds": {"term": PUT, "datum": {"a": 1}, "value": (("put", ("a",), 1, 2),)},
        "moved": {"datum": [1, 2], "deeds": [("drop", (0,), 1)]},
    },
    "bounds": {
        "exchanged": {"f": A, "g": E}, "covers": {"one": (E,), "other": (A,)}, "touched": {"f": ("both", A, E)}, "apart": {"f": A, "g": E}, "single": {"f": ("both", A, A)},
        "kept": {"f": A, "g": ("pipe", A, A)}, "regained": {"f": ("both", A, A)},
    },
    "formulas": {"is_shape": {"value": ANY}},
    "runs": {"tell": {"term": E, "datum": {"b": [1], "a": 2}}},
    "ways": {"ways": {"term": E, "datum": [[1]]}, "led": {"term": E, "datum": [[1]], "way": (0,)}, "is_way": {"term": E, "datum": [1], "way": (0,), "outcome": 1}},
    "code": {"code_of": {"term": ("both", E, A)}, "is_code": {"value": [("give",)]}, "shorter": {"code": Code([("jump", 1), ("give",)])}},
    "texts": {
        "write_term": {"term": PUT}, "write_test": {"test": YES}, "write_datum": {"datum": {"b": 1, "a": [2]}}, "read_term": {"text": "each|.a"}, "read_test": {"text": "is yes"},
        "read_datum": {"text": "{b:1;a:[]}"},
    },
    "spans": {
        "spans": {"text": "each|(.a)"}, "part_around": {"text": "each|(.a)", "index": 6}, "rewritten": {"text": "each|(.a)", "spot": (1,), "part": E}, "bare": {"text": "each|(.a)"},
        "tidied": {"text": "each|(.a)"},
    },
}
# All classes: how an object is made, and its methods with right values; properties have None.
CLASSES = {
    "runs.Run": (lambda: Run(E, [[1], 2]), {"ask": {}, "take": {"number": 1}, "rest": {}, "copy": {}, "events": None, "way": None, "held": None}),
    "machine.Machine": (lambda: Machine(code_of(E), [[1], 2]), {"ask": {}, "take": {"number": 1}, "rest": {}, "copy": {}, "events": None, "way": None, "held": None}),
    "code.Code": (lambda: Code([("give",)]), {"rows": None}),
    "shapes.Shapes": (lambda: Shapes({"s": ANY}), {
        "has": {"shape": ("name", "s"), "datum": [1]}, "least": {"shape": ("least", 2)}, "shape_parting": {"one": ANY, "other": ("least", 1)},
        "shape_within": {"one": ANY, "other": ("least", 1)}, "failing": {"f": A, "shape": ("least", 1)}, "sizes": {"shape": ANY, "most": 3}, "simple": {"shape": ("all", E, ANY)}}),
    "books.Book": (lambda: Book({"f": E}, {"s": ANY}), {
        "filters": None, "shapes": None, "filter": {"name": "f"}, "shape": {"name": "s"}, "plain": {"name": "f"}, "tell": {"name": "f", "datum": [[1]]}}),
    "houses.House": (lambda: House(Book({"f": E}, {}), {"b": [1], "a": 2}), {
        "book": None, "data": None, "moment": None, "undone": None, "depth": None, "looked": None, "asked": None, "change": {}, "undo": {"count": 0}, "redo": {"count": 0},
        "attempt": {"action": list}, "explore": {"action": list}, "copy": {}}),
    "houses.GuardedHouse": (lambda: GuardedHouse(Book({"f": E}, {"s": ANY}), {"b": [1]}, ("has", "b", "s")), {
        "guards": None, "looked": None, "asked": None, "change": {}, "undo": {"count": 0}, "redo": {"count": 0}, "copy": {}}),
}


def module(name):
    return importlib.import_module(f"sieveways.{name}")


def plain(value):
    """A text for what is told; generators are told whole, objects by what they hold."""
    if inspect.isgenerator(value):
        return plain(list(value))
    if isinstance(value, Code):
        return shown(value.rows)
    if isinstance(value, (Run, Machine)):
        return shown((value.events, value.way, value.held, len(value), list(value.copy().rest())))
    if isinstance(value, Book):
        return shown((value.filters, value.shapes))
    if isinstance(value, House):
        return shown((value.book.filters, value.data, value.moment, value.undone, value.depth, value.looked, value.asked))
    if hasattr(value, "outcomes"):
        return shown((value.outcomes, value.ending, value.failure, value.events))
    return shown(value)


def spoiled(value):
    """Changes all lists and dicts in what was told."""
    for part in value if isinstance(value, (list, tuple)) else value.values() if isinstance(value, dict) else ():
        spoiled(part)
    if isinstance(value, list):
        value.append("spoiled")
    elif isinstance(value, dict):
        value["spoiled"] = 1


class InterfaceTest(unittest.TestCase):
    def test_functions(self):
        for name, functions in FUNCTIONS.items():
            for word, arguments in functions.items():
                function = vars(module(name))[word]
                self.assertEqual(function.__module__, f"sieveways.{name}")
                told = [row.name for row in inspect.signature(function).parameters.values() if row.kind is not row.KEYWORD_ONLY]
                self.assertEqual(told, list(arguments), word)

    def test_classes(self):
        for path, (_, members) in CLASSES.items():
            name, _, word = path.partition(".")
            owner = vars(module(name))[word]
            self.assertEqual(owner.__module__, f"sieveways.{name}")
            for member, arguments in members.items():
                told = vars(owner)[member]
                self.assertIs(isinstance(told, property), arguments is None, (path, member))
        self.assertIn("from_way", vars(Run))

    def test_limits_are_told_by_name(self):
        for function in (tell, ways, Run, Run.from_way, Machine, Book.tell):
            last = list(inspect.signature(function).parameters.values())[-1]
            self.assertEqual((last.name, last.default, last.kind), ("limit", 1000, inspect.Parameter.KEYWORD_ONLY))


class CallTest(unittest.TestCase):
    def calls(self):
        """Each function and method with how it is called and its arguments; methods anew of a new object each time."""
        for name, functions in FUNCTIONS.items():
            for word, arguments in functions.items():
                yield word, (lambda name=name, word=word: getattr(module(name), word)), arguments
        for path, (make, members) in CLASSES.items():
            for member, arguments in members.items():
                if arguments is not None:
                    yield f"{path}.{member}", (lambda make=make, member=member: getattr(make(), member)), arguments

    def test_by_name_and_by_position(self):
        for word, function, arguments in self.calls():
            self.assertEqual(plain(function()(**arguments)), plain(function()(*arguments.values())), word)

    def test_no_call_changes_what_it_is_given(self):
        for word, function, arguments in self.calls():
            given = {name: value if isinstance(value, Code) or callable(value) else copy.deepcopy(value) for name, value in arguments.items()}
            plain(function()(**given))
            for name, value in given.items():
                if not callable(value):
                    self.assertEqual(plain(value), plain(arguments[name]), word)
                    if isinstance(value, dict):
                        self.assertEqual(list(value), list(arguments[name]))

    def test_equal_calls_return_equal_results_that_are_new(self):
        for word, function, arguments in self.calls():
            first = plain(function()(**arguments))
            again = function()(**arguments)
            again = list(again) if inspect.isgenerator(again) else again
            self.assertEqual(plain(again), first, word)
            spoiled(again)
            self.assertEqual(plain(function()(**arguments)), first, word)

    def test_properties_are_new_each_time(self):
        for path, (make, members) in CLASSES.items():
            thing = make()
            for member, arguments in members.items():
                if arguments is None:
                    first = plain(getattr(thing, member))
                    spoiled(getattr(thing, member))
                    self.assertEqual(plain(getattr(thing, member)), first, (path, member))

    def test_objects_of_other_classes_are_not_equal(self):
        things = [make() for make, _ in CLASSES.values()] + [tell(E, [1]), None, 1, (), [], {}]
        for number, one in enumerate(things):
            for other in things[number + 1:]:
                self.assertIs(one == other, False)
                self.assertIs(one != other, True)


class PromiseTest(unittest.TestCase):
    def test_the_ways_in_which_a_filter_runs_tell_the_same(self):
        many = 0
        for term, random in random_filters(9000, 9200):
            text, _ = laid_out(write_term(term).split(" "), random)
            read = read_term(text if '" "' not in write_term(term) else write_term(term))
            self.assertEqual(shown(read), shown(term))
            for datum in DATA:
                told = tell(term, datum, limit=50)
                run = Run(read, datum, limit=50)
                self.assertEqual(shown(list(run.rest())), shown(list(told.outcomes)))
                self.assertEqual((run.events, run.ask()[0]), (told.events, told.ending))
                self.assertEqual(shown([outcome for _, outcome in ways(read, datum, limit=50)]), shown(list(told.outcomes)))
                if is_closed(term):
                    there = Book({"f": term}, {}).tell("f", datum, limit=51)
                    self.assertEqual((shown(there.outcomes), there.ending, there.failure, there.events[1:]),
                                     (shown(told.outcomes), told.ending, told.failure, told.events))
                    many += 1
        self.assertGreater(many, 500)

    def test_compiled_code_tells_the_same(self):
        for term, _ in random_choosers(9200, 9300):
            if is_chooser(term) and is_filter(term):
                for datum in DATA:
                    for limit in (0, 1, 2, 3, 1000):
                        told = tell(term, datum, limit=limit)
                        machine = Machine(code_of(term), datum, limit=limit)
                        self.assertEqual(shown(list(machine.rest())), shown(list(told.outcomes)))
                        self.assertEqual((machine.events, machine.ask()[0]), (told.events, told.ending))

    def test_each_answer_stays_as_it_was_when_asked_again(self):
        house = House(Book({"f": E, "g": ("call", "f", ())}, {"s": ANY}), {"d": [[1], 2]})
        book = house.book
        first = (plain(book.tell("g", [[1]])), plain(book.plain("g")), plain(house.data))
        house.change(("filter", "f", S), ("datum", "d", 1), ("gone", "shape", "s"))
        house.undo()
        self.assertEqual((plain(book.tell("g", [[1]])), plain(book.plain("g")), plain(house.data)), first)
        self.assertEqual((house.book, house.book.filters), (book, book.filters))
        house.redo()
        self.assertEqual((list(book), list(house.book), house.data), (["f", "g", "s"], ["f", "g"], {"d": 1}))


if __name__ == "__main__":
    unittest.main()

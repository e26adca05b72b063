"""Promises 92 to 97: houses, their changes and trials, and guards that are kept true."""

import inspect
import unittest

from sieveways import houses as module
from sieveways.books import Book
from sieveways.errors import (
    Broken, Endless, Failed, InvalidDatum, InvalidDeed, InvalidEntry, InvalidGuard, InvalidName, NoName, NoOutcome,
    OutOfRange, Standing, TooGreat, TooLong, Unknown,
)
from sieveways.houses import GuardedHouse, House
from tests.values import any_values, nested, shown

S = ("same",)
A = ("field", "a")
B = ("field", "b")
E = ("every",)
NONE = ("none",)
FAIL = ("fail",)
ANY = ("any",)
NULL = ("is", "null")
LIST = ("is", "list")
ONE = ("leaf", 1)
BOOK = Book({"f": E, "g": ("call", "f", ()), "h": ("field", "a")}, {"s": ("each", NULL), "t": ("each", ("name", "s"))})


def call(name, *handed):
    return ("call", name, handed)


def put(name, datum):
    return ("datum", name, datum)


def told_of(house):
    """All that a house tells, but for how many guards were asked."""
    return shown((house.book.filters, house.book.shapes, house.data, house.moment, house.undone, house.depth, house.looked, list(house)))


class Stop(Exception):
    pass


class HouseCase(unittest.TestCase):
    def refused(self, house, deeds, error, *values):
        """A change that is refused changes nothing."""
        before = told_of(house)
        with self.assertRaises(error) as caught:
            house.change(*deeds)
        self.assertIs(caught.exception.__class__, error)
        self.assertEqual(shown(list(vars(caught.exception).values())), shown(list(values)), deeds)
        self.assertEqual(told_of(house), before)


class InterfaceTest(unittest.TestCase):
    def test_names_of_arguments(self):
        self.assertEqual(list(inspect.signature(House).parameters), ["book", "data"])
        told = list(inspect.signature(GuardedHouse).parameters.values())
        self.assertEqual([parameter.name for parameter in told], ["book", "data", "guards"])
        self.assertIs(told[2].kind, inspect.Parameter.VAR_POSITIONAL)
        self.assertIs(list(inspect.signature(House.change).parameters.values())[1].kind, inspect.Parameter.VAR_POSITIONAL)
        for name in ("undo", "redo"):
            self.assertEqual([(row.name, row.default) for row in inspect.signature(getattr(House, name)).parameters.values()][1:], [("count", 1)])
        for name in ("attempt", "explore"):
            self.assertEqual(list(inspect.signature(getattr(House, name)).parameters), ["self", "action"])
        for name in ("book", "data", "moment", "undone", "depth", "looked", "asked"):
            self.assertIsInstance(vars(House)[name], property)
        for name in ("guards", "looked", "asked"):
            self.assertIsInstance(vars(GuardedHouse)[name], property)
        for name in ("__iter__", "__eq__", "change", "undo", "redo", "attempt", "explore", "copy"):
            self.assertIn(name, vars(House))
        for name in ("__init__", "__eq__", "change", "undo", "redo", "copy"):
            self.assertIn(name, vars(GuardedHouse))
        self.assertEqual(GuardedHouse.__bases__, (House,))
        self.assertEqual({owner.__module__ for owner in (module.House, module.GuardedHouse)}, {"sieveways.houses"})

    def test_by_name(self):
        house = House(book=BOOK, data={"d": 1})
        house.change(put("d", 2))
        house.undo(count=1)
        house.redo(count=1)
        self.assertEqual((house.attempt(action=list), house.explore(action=list), house.data), (["d"], ["d"], {"d": 2}))


class HouseTest(HouseCase):
    def test_properties(self):
        house = House(BOOK, {"e": [1], "d": {"b": 1, "a": 2}})
        self.assertEqual((house.book, house.data), (BOOK, {"d": {"a": 2, "b": 1}, "e": [1]}))
        self.assertEqual((house.moment, house.undone, house.depth, house.looked, house.asked), (0, 0, 0, (), 0))
        self.assertEqual((list(house), list(house), list(House(BOOK, {}))), (["d", "e"], ["d", "e"], []))

    def test_nothing_is_shared(self):
        data = {"d": [1, [2]]}
        house = House(BOOK, data)
        data["d"][1].append(3)
        data["e"] = 1
        house.data["d"].append(4)
        house.data.clear()
        house.book.filters.clear()
        self.assertEqual((house.data, house.book), ({"d": [1, [2]]}, BOOK))
        new = [5]
        house.change(put("d", new))
        new.append(6)
        self.assertEqual(house.data, {"d": [5]})
        self.assertEqual(data, {"d": [1, [2, 3]], "e": 1})

    def test_names_and_data(self):
        for value in [None, True, 0, "", "A", "abcdefghi", "each", "in", (), ("d",), NoName(1)]:
            with self.assertRaises(InvalidName) as caught:
                House(BOOK, {"z": (), value: 1, 5: 1})
            self.assertIs(caught.exception.value, value)
        for value in [(), {1: 2}, "%", 10 ** 31, [()], nested(61), BOOK]:
            with self.assertRaises(InvalidDatum) as caught:
                House(BOOK, {"z": (), "c": value, "b": 1})
            self.assertIs(caught.exception.value, value)
            self.assertRaises(InvalidName, House, BOOK, {"c": value, "A": 1})

    def test_each_deed(self):
        house = House(BOOK, {"d": {"a": 1}})
        house.change(("filter", "k", A))
        self.assertEqual(house.book.filters, {**BOOK.filters, "k": A})
        house.change(("filter", "k", B))
        self.assertEqual(house.book.filter("k"), B)
        house.change(("shape", "u", ("name", "s")))
        self.assertEqual(house.book.shapes, {**BOOK.shapes, "u": ("name", "s")})
        house.change(put("e", [1]))
        house.change(put("d", 2))
        self.assertEqual((house.data, list(house)), ({"d": 2, "e": [1]}, ["d", "e"]))
        house.change(("gone", "filter", "k"))
        house.change(("gone", "shape", "u"))
        self.assertEqual(house.book, BOOK)
        house.change(("gone", "datum", "d"))
        self.assertEqual((house.data, list(house), house.moment), ({"e": [1]}, ["e"], 8))
        house.change(("do", "e", "f"))
        self.assertEqual(house.data, {"e": 1})
        house.change()
        self.assertEqual((house.moment, house.data, house.looked, house.asked), (10, {"e": 1}, (), 0))

    def test_several_deeds(self):
        house = House(BOOK, {"d": {"a": [1, 2]}})
        house.change(("do", "d", "k"), put("e", 5), ("filter", "k", ("pipe", A, E)), ("do", "e", "m"), ("filter", "m", ("sum", S, ONE)),
                     put("e", 6), ("do", "e", "m"), ("gone", "filter", "g"))
        self.assertEqual((house.data, house.moment), ({"d": 1, "e": 8}, 1))
        self.assertEqual(sorted(house.book.filters), ["f", "h", "k", "m"])
        house.change(("gone", "datum", "d"), put("d", 3), ("gone", "datum", "e"))
        self.assertEqual(house.data, {"d": 3})
        # Filters and shapes that use one another come at once.
        house.change(("filter", "p", call("q")), ("filter", "q", ("both", S, call("p"))), ("shape", "x", ("key", "k", ("name", "y"))), ("shape", "y", ("name", "x")))
        self.assertEqual(house.book.shape("y"), ("name", "x"))

    def test_do_takes_the_first_outcome(self):
        house = House(Book({"f": ("both", E, FAIL), "more": ("def", "r", (), ("both", S, call("r")), call("r"))}, {}), {"d": [4, 5], "e": 1})
        house.change(("do", "d", "f"), ("do", "e", "more"))
        self.assertEqual(house.data, {"d": 4, "e": 1})

    def test_wrong_deeds(self):
        house = House(BOOK, {"d": 1})
        wrong = any_values() + [
            ("filter",), ("filter", "k"), ("filter", "k", S, S), ("filter", "A", S), ("filter", "each", S), ("filter", None, S), ["filter", "k", S],
            ("Filter", "k", S), ("shape", "in", ANY), ("shape", 1, ANY), ("shape", "k"), ("datum", "d"), ("datum", "D", 1), ("datum", "null", 1), ("datum", "d", ()),
            ("datum", "d", "%"), ("datum", "d", {1: 1}), ("datum", "d", nested(61)), ("gone", "d"), ("gone", "data", "d"), ("gone", "datum", "D"), ("gone", "do", "d"),
            ("gone", None, "d"), ("gone", ["datum"], "d"), ("gone", ("datum",), "d"), ("gone", "datum", None), ("do", "d"), ("do", "D", "f"), ("do", "d", "F"), ("do", "d", None), ("do", "each", "f"),
            ("do", "d", "f", "g"), ("put", "d", 1), (1, 2, 3), ((), (), ()), (None, "d", 1), ("drop", (), 1),
        ]
        for value in wrong:
            self.refused(house, [value], InvalidDeed, 0)
            self.refused(house, [put("d", 2), ("gone", "datum", "q"), value, None], InvalidDeed, 2)
            self.refused(house, [("filter", "k", None), ("do", "q", "q"), value], InvalidDeed, 2)
        self.assertIsInstance(InvalidDeed(1), ValueError)

    def test_errors_in_order(self):
        house = House(BOOK, {"d": [1], "e": 1})
        broken = ("filter", "z", call("q"))
        gone = ("gone", "datum", "q")
        self.refused(house, [broken, ("do", "q", "q"), gone, ("gone", "datum", "r")], NoName, "q")
        for kind, name in (("filter", "d"), ("shape", "f"), ("datum", "f"), ("filter", "s"), ("datum", "z")):
            self.refused(house, [("gone", kind, name)], NoName, name)
        self.refused(house, [("gone", "datum", "d"), ("gone", "datum", "d")], NoName, "d")
        self.refused(house, [("gone", "datum", "n"), put("n", 1)], NoName, "n")
        house.explore(lambda inner: inner.change(put("n", 1), ("gone", "datum", "n")))
        # What Book raises.
        self.refused(house, [("filter", "z", 5), ("filter", "k", None), ("shape", "k", None)], InvalidEntry, "k")
        self.refused(house, [("shape", "k", S), broken], InvalidEntry, "k")
        self.refused(house, [broken, ("shape", "u", ("name", "u"))], Unknown, "z", "q")
        self.refused(house, [("gone", "filter", "f")], Unknown, "g", "f")
        self.refused(house, [("gone", "shape", "s")], Unknown, "t", "s")
        self.refused(house, [("shape", "s", ("name", "t")), ("shape", "t", ("name", "s")), ("do", "q", "q")], Standing, "s")
        # Each do-deed at its time.
        self.refused(house, [("do", "q", "r")], NoName, "q")
        self.refused(house, [("do", "d", "r"), ("do", "q", "r")], NoName, "r")
        self.refused(house, [("do", "d", "s")], NoName, "s")
        self.refused(house, [("do", "d", "f"), put("e", 5), ("do", "e", "h")], Failed, 2, "field")
        self.refused(house, [("filter", "k", NONE), ("do", "d", "k"), ("do", "q", "q")], NoOutcome, 1)
        self.refused(house, [("do", "d", "f"), ("do", "d", "f")], Failed, 1, "every")
        self.refused(house, [("gone", "filter", "h"), ("do", "d", "h")], NoName, "h")
        self.refused(house, [("gone", "datum", "d"), ("do", "d", "f")], NoName, "d")
        wait = ("def", "w", (), ("pipe", ("sum", S, ONE), call("w")), call("w"))
        self.refused(house, [("do", "e", "k"), ("filter", "k", wait)], TooLong, 0)
        for error in (Failed(0, ""), NoOutcome(0), TooLong(0), Broken(0)):
            self.assertIsInstance(error, RuntimeError)

    def test_two_thousand_steps(self):
        count = ("def", "w", (), ("if", ("equal", 0), S, ("pipe", ("less", S, ONE), call("w"))), call("w"))
        house = House(Book({"k": count}, {}), {"d": 665, "e": 667})
        house.change(("do", "d", "k"))
        self.assertEqual(house.data["d"], 0)
        self.refused(house, [("do", "e", "k")], TooLong, 0)


class UndoTest(HouseCase):
    def house(self):
        house = House(BOOK, {"d": 0})
        for number in (1, 2, 3):
            house.change(put("d", number), ("filter", "k", ("item", number)))
        return house

    def test_undo_and_redo(self):
        house = self.house()
        self.assertEqual((house.moment, house.undone), (3, 0))
        house.undo()
        self.assertEqual((house.data, house.book.filter("k"), house.moment, house.undone), ({"d": 2}, ("item", 2), 2, 1))
        house.undo(2)
        self.assertEqual((house.data, house.book, house.moment, house.undone), ({"d": 0}, BOOK, 0, 3))
        house.redo()
        house.redo(0)
        self.assertEqual((house.data, house.moment, house.undone), ({"d": 1}, 1, 2))
        house.redo(2)
        house.undo(0)
        self.assertEqual((house.data, house.moment, house.undone), ({"d": 3}, 3, 0))
        house.undo(3)
        house.redo(3)
        self.assertEqual((house.data, house.book.filter("k")), ({"d": 3}, ("item", 3)))

    def test_a_change_ends_what_can_be_redone(self):
        house = self.house()
        house.undo(2)
        house.change(put("d", 9))
        self.assertEqual((house.moment, house.undone, house.data), (2, 0, {"d": 9}))
        self.assertRaises(OutOfRange, house.redo)
        house.undo()
        self.assertEqual((house.data, house.undone), ({"d": 1}, 1))
        house.change()
        self.assertEqual((house.undone, house.moment), (0, 2))
        # One that is refused does not.
        house.undo()
        self.refused(house, [("do", "d", "q")], NoName, "q")
        self.assertEqual(house.undone, 1)

    def test_out_of_range(self):
        house = self.house()
        house.undo()
        before = told_of(house)
        for call_of, most in ((house.undo, 2), (house.redo, 1)):
            for value in any_values() + [most + 1, -1, "1", 1.0, [1], (1,)]:
                if type(value) is int and 0 <= value <= most:
                    continue
                with self.assertRaises(OutOfRange) as caught:
                    call_of(value)
                self.assertIs(caught.exception.value, value)
                self.assertIsInstance(caught.exception, LookupError)
                self.assertEqual(told_of(house), before)
        empty = House(BOOK, {})
        empty.undo(0)
        empty.redo(0)
        self.assertRaises(OutOfRange, empty.undo)
        self.assertRaises(OutOfRange, empty.redo)


class TrialTest(HouseCase):
    def test_attempt(self):
        house = House(BOOK, {"d": 0})
        seen = []

        def action(inner):
            seen.append((inner is house, inner.depth))
            inner.change(put("d", 1))
            inner.change(put("d", 2))
            return "told"

        self.assertEqual(house.attempt(action), "told")
        self.assertEqual((seen, house.data, house.moment, house.depth), ([(True, 1)], {"d": 2}, 2, 0))

    def test_attempt_with_an_error(self):
        house = House(BOOK, {"d": 0})
        house.change(put("d", 1))
        house.change(put("d", 2))
        house.undo()
        before = told_of(house)
        for error in (Stop, ValueError, KeyboardInterrupt, StopIteration):
            def action(inner):
                inner.undo()
                inner.change(put("d", 5), ("filter", "k", S))
                inner.change(put("e", 6))
                raise error("why")

            with self.assertRaises(error) as caught:
                house.attempt(action)
            self.assertEqual(str(caught.exception), "why")
            self.assertEqual(told_of(house), before)
        with self.assertRaises(NoName):
            house.attempt(lambda inner: inner.change(put("d", 7)) or inner.change(("gone", "datum", "q")))
        self.assertEqual(told_of(house), before)

    def test_explore(self):
        house = House(BOOK, {"d": 0})
        house.change(put("d", 1))
        house.change(put("d", 2))
        house.undo()
        before = told_of(house)

        def action(inner):
            inner.undo()
            inner.change(put("d", 8))
            return inner.data, inner.moment, inner.undone, inner.depth

        self.assertEqual(house.explore(action), ({"d": 8}, 1, 0, 1))
        self.assertEqual(told_of(house), before)

        def failing(inner):
            inner.redo()
            raise Stop

        self.assertRaises(Stop, house.explore, failing)
        self.assertEqual(told_of(house), before)

    def test_trials_within_trials(self):
        house = House(BOOK, {"d": 0})
        depths = []

        def inner_action(inner):
            depths.append(inner.depth)
            inner.change(put("d", inner.data["d"] + 10))
            raise Stop

        def action(inner):
            depths.append(inner.depth)
            inner.change(put("d", 1))
            try:
                inner.attempt(inner_action)
            except Stop:
                pass
            depths.append((inner.depth, inner.data["d"]))
            inner.explore(lambda more: more.attempt(lambda most: depths.append(most.depth) or most.change(put("d", 7))))
            depths.append(inner.data["d"])
            inner.attempt(lambda more: more.change(put("d", inner.data["d"] + 1)))
            return inner.data["d"]

        self.assertEqual(house.attempt(action), 2)
        self.assertEqual((depths, house.data, house.depth, house.moment), ([1, 2, (1, 1), 3, 1], {"d": 2}, 0, 2))
        self.assertRaises(Stop, house.attempt, lambda inner: inner.attempt(inner_action))
        self.assertEqual((house.data, house.depth), ({"d": 2}, 0))
        self.assertEqual(house.explore(action), 2)
        self.assertEqual((house.data, house.moment), ({"d": 2}, 2))

    def test_undo_of_what_was_done_before(self):
        house = House(BOOK, {"d": 0})
        house.change(put("d", 1))
        house.attempt(lambda inner: inner.undo())
        self.assertEqual((house.moment, house.undone, house.data), (0, 1, {"d": 0}))
        house.redo()
        self.assertRaises(OutOfRange, house.attempt, lambda inner: inner.undo() or inner.undo())
        self.assertEqual((house.moment, house.undone, house.data), (1, 0, {"d": 1}))


class GuardTest(HouseCase):
    HOLD = [
        ({"f": ("both", A, NONE), "g": A}, {}, {}, ("alike", "f", "g")),
        ({"f": call("g"), "g": call("h"), "h": A}, {}, {}, ("alike", "f", "h")),
        ({"f": A, "g": E}, {}, {}, ("within", "f", "g")),
        ({"f": A, "g": B}, {}, {}, ("apart", "f", "g")),
        ({"f": ("try", A)}, {"s": ANY}, {}, ("never", "f", "s")),
        ({"f": A}, {"s": ("key", "a", ("name", "t")), "t": ANY}, {}, ("never", "f", "s")),
        ({"f": E}, {"s": ("each", ("name", "s"))}, {}, ("keeps", "f", "s")),
        ({"f": A}, {"s": ("key", "a", ("name", "s"))}, {}, ("keeps", "f", "s")),
        ({}, {"s": ("each", NULL)}, {"d": [None]}, ("has", "d", "s")),
        ({"f": A}, {}, {}, ("alike", "f", "f")),
    ]
    FAIL = [
        ({"f": ("pipe", A, NONE), "g": NONE}, {}, {}, ("alike", "f", "g")),
        ({"f": E, "g": A}, {}, {}, ("within", "f", "g")),
        ({"f": E, "g": A}, {}, {}, ("apart", "f", "g")),
        ({"f": A}, {"s": ANY}, {}, ("never", "f", "s")),
        ({"f": E}, {"s": ("each", ("or", NULL, LIST))}, {}, ("keeps", "f", "s")),
        ({}, {"s": ("each", NULL)}, {"d": [1]}, ("has", "d", "s")),
        ({"f": ("list", A)}, {}, {}, ("alike", "f", "f")),
        ({"f": ("leaf", 1), "g": A}, {}, {}, ("within", "g", "f")),
        ({"f": ("first", A), "g": A}, {}, {}, ("apart", "f", "g")),
        ({"f": ("list", A)}, {"s": ANY}, {}, ("never", "f", "s")),
        ({"f": ("pipe", A, ("leaf", 1))}, {"s": ANY}, {}, ("keeps", "f", "s")),
        ({"f": call("f")}, {}, {}, ("alike", "f", "f")),
        ({"f": ("both", call("g"), call("g")), "g": nested(40, lambda inner: ("pipe", S, inner), A)}, {}, {}, ("apart", "f", "f")),
        ({"f": A}, {}, {}, ("alike", "f", "g")), ({"f": A}, {}, {}, ("within", "g", "f")), ({"f": A}, {}, {}, ("never", "f", "s")),
        ({}, {"s": ANY}, {}, ("never", "f", "s")), ({}, {"s": ANY}, {}, ("keeps", "s", "s")), ({"f": E}, {}, {"s": 1}, ("keeps", "f", "s")),
        ({}, {"s": ANY}, {}, ("has", "d", "s")), ({}, {}, {"d": 1}, ("has", "d", "s")), ({"d": S}, {"s": ANY}, {}, ("has", "d", "s")),
    ]

    def test_guards_that_hold(self):
        for filters, shapes, data, guard in self.HOLD:
            house = GuardedHouse(Book(filters, shapes), data, guard)
            self.assertEqual((house.guards, house.looked, house.asked), ((guard,), (0,), 1))

    def test_guards_that_do_not_hold(self):
        for filters, shapes, data, guard in self.FAIL:
            with self.assertRaises(Broken) as caught:
                GuardedHouse(Book(filters, shapes), data, guard)
            self.assertEqual(caught.exception.index, 0, guard)

    def test_the_first_one(self):
        book = Book({"f": A, "g": B}, {"s": ANY})
        good, bad = ("apart", "f", "g"), ("alike", "f", "g")
        for guards, index in (((bad,), 0), ((good, bad, bad), 1), ((good, good, ("never", "f", "s"), bad), 2)):
            with self.assertRaises(Broken) as caught:
                GuardedHouse(book, {}, *guards)
            self.assertEqual(caught.exception.index, index)

    def test_wrong_guards(self):
        wrong = any_values() + [
            ("alike",), ("alike", "f"), ("alike", "f", "g", "h"), ("Alike", "f", "g"), ["alike", "f", "g"], ("alike", "F", "g"), ("alike", "f", "each"),
            ("alike", None, "g"), ("alike", "f", 1), ("kept", "f", "g"), ("never", "f", ANY), ("has", 1, "s"), (1, "f", "g"), (None, "f", "g"),
            (["alike"], "f", "g"), ("keeps", "f", ("s",)), ("within", ["f"], "g"), (("has",), "d", "s"), ("has", "d", "null"),
        ]
        book = Book({"f": A, "g": B}, {})
        for value in wrong:
            for guards, index in (([value], 0), ([("alike", "f", "g"), value, None], 1)):
                with self.assertRaises(InvalidGuard) as caught:
                    GuardedHouse(book, {}, *guards)
                self.assertEqual(caught.exception.index, index)
                self.assertIsInstance(caught.exception, ValueError)
        self.assertRaises(InvalidName, GuardedHouse, book, {"A": 1}, None)
        self.assertRaises(InvalidDatum, GuardedHouse, book, {"a": ()}, None)

    def test_kept_true(self):
        book = Book({"f": A, "g": B}, {"s": ("each", NULL)})
        house = GuardedHouse(book, {"d": [None]}, ("apart", "f", "g"), ("has", "d", "s"))
        self.refused(house, [("filter", "f", B)], Broken, 0)
        self.refused(house, [put("d", [1])], Broken, 1)
        self.refused(house, [put("d", [1]), ("filter", "g", E)], Broken, 0)
        self.refused(house, [("gone", "datum", "d")], Broken, 1)
        self.refused(house, [("gone", "filter", "f")], Broken, 0)
        self.refused(house, [("shape", "s", ("not", ANY))], Broken, 1)
        self.refused(house, [put("d", [1]), ("do", "q", "f")], NoName, "q")
        self.refused(house, [("filter", "f", ("both", call("g"), call("f")))], Broken, 0)
        self.refused(house, [put("d", 1), None], InvalidDeed, 1)
        house.change(put("d", [1]), ("shape", "s", ("each", ("is", "number"))))
        house.change(("filter", "f", ("field", "c")))
        self.assertEqual((house.moment, house.data), (2, {"d": [1]}))
        # Undo and redo are not guarded.
        house.undo(2)
        house.redo(2)
        self.assertEqual(house.data, {"d": [1]})


class LookedTest(HouseCase):
    def house(self):
        book = Book({"f": ("pipe", call("g"), call("g")), "g": ("field", "a"), "h": ("field", "b"), "k": S},
                    {"s": ("each", ("name", "t")), "t": NULL, "u": ANY})
        return GuardedHouse(book, {"d": [None], "e": 1}, ("apart", "f", "h"), ("has", "d", "s"), ("has", "e", "u"), ("alike", "g", "g"))

    def check(self, house, looked, asked):
        self.assertEqual((house.looked, house.asked), (looked, asked))

    def test_changes(self):
        house = self.house()
        self.check(house, (0, 1, 2, 3), 4)
        house.change(put("e", 2))
        self.check(house, (2,), 5)
        house.change(put("e", 2))
        self.check(house, (), 5)
        house.change()
        self.check(house, (), 5)
        house.change(("filter", "k", E), ("shape", "v", ANY), put("n", 1))
        self.check(house, (), 5)
        # Names by other filters and by other shapes.
        house.change(("filter", "g", ("field", "c")))
        self.check(house, (0, 3), 7)
        house.change(("shape", "t", ("or", NULL, LIST)))
        self.check(house, (1,), 8)
        house.change(("filter", "f", ("pipe", ("field", "c"), call("g"))))
        self.check(house, (), 8)
        house.change(("gone", "filter", "g"), ("filter", "g", ("field", "c")))
        self.check(house, (), 8)
        house.change(put("e", True))
        self.check(house, (2,), 9)
        house.change(put("e", 1))
        self.check(house, (2,), 10)
        house.change(("shape", "u", ("or", ANY, ANY)), put("d", []), ("filter", "h", ("field", "e")))
        self.check(house, (0, 1, 2), 13)
        house.change(("do", "d", "k"), ("filter", "k", ("list", NONE)))
        self.check(house, (), 13)

    def test_refused_changes(self):
        house = self.house()
        house.change(put("e", 2))
        self.check(house, (2,), 5)
        self.refused(house, [put("d", [1]), put("e", 5)], Broken, 1)
        self.check(house, (2,), 6)
        self.refused(house, [put("d", [1]), put("e", 5), ("filter", "h", ("field", "z"))], Broken, 1)
        self.check(house, (2,), 8)
        self.refused(house, [("filter", "g", ("list", S))], Broken, 0)
        self.check(house, (2,), 9)
        self.refused(house, [("filter", "g", call("f"))], Broken, 0)
        self.check(house, (2,), 10)
        self.refused(house, [("gone", "datum", "e"), ("filter", "q", None)], InvalidEntry, "q")
        self.check(house, (2,), 10)
        self.refused(house, [("gone", "datum", "e")], Broken, 2)
        self.check(house, (2,), 11)

    def test_undo_and_redo(self):
        house = self.house()
        house.change(put("e", 2))
        house.change(put("e", 3), put("d", []))
        house.change(put("e", 2))
        self.check(house, (2,), 8)
        house.undo()
        self.check(house, (2,), 9)
        house.undo(0)
        self.check(house, (), 9)
        # What was before and behind the call is compared.
        house.redo()
        house.undo(2)
        self.check(house, (1,), 11)
        house.redo(2)
        self.check(house, (1,), 12)
        house.undo(3)
        self.check(house, (1, 2), 14)
        self.assertRaises(OutOfRange, house.undo)
        self.assertRaises(OutOfRange, house.redo, 4)
        self.check(house, (1, 2), 14)
        house.redo(0)
        self.check(house, (), 14)

    def test_trials(self):
        house = self.house()
        house.change(put("e", 2))
        self.check(house, (2,), 5)
        told = house.explore(lambda inner: inner.change(put("d", [])) or inner.looked)
        self.assertEqual(told, (1,))
        self.check(house, (2,), 6)

        def action(inner):
            inner.change(put("d", []))
            inner.change(put("d", [5]))

        with self.assertRaises(Broken) as caught:
            house.attempt(action)
        self.assertEqual(caught.exception.index, 1)
        self.check(house, (2,), 8)
        self.assertEqual(house.data, {"d": [None], "e": 2})
        house.attempt(lambda inner: inner.change(put("d", [])))
        self.check(house, (1,), 9)
        house.attempt(lambda inner: None)
        self.check(house, (1,), 9)

    def test_what_guards_tell_is_what_a_new_house_would_tell(self):
        filters = [A, B, E, ("try", A), call("g"), ("pipe", call("g"), A), ("list", S), ("both", A, B)]
        shapes = [ANY, NULL, ("each", ("name", "t")), ("key", "a", ("name", "t")), ("name", "t")]
        guards = [("apart", "f", "g"), ("never", "f", "s"), ("has", "d", "s"), ("keeps", "g", "s"), ("within", "g", "h")]
        many = [0, 0]
        for guard in guards:
            for first in filters:
                house = House(Book({"f": A, "g": B, "h": E}, {"s": ANY, "t": ANY}), {"d": None})
                guarded = GuardedHouse(Book({"f": ("try", A), "g": ("try", B), "h": ("try", B)}, {"s": ("each", ("name", "t")), "t": ("each", ("name", "t"))}), {"d": []},
                                       *([guard] if guard[0] != "within" else []))
                for shape in shapes:
                    deeds = [("filter", "f", first), ("filter", "g", ("try", B)), ("shape", "s", shape), ("shape", "t", ANY), put("d", {"a": None})]
                    house.change(*deeds)
                    try:
                        GuardedHouse(house.book, house.data, *guarded.guards)
                        guarded.change(*deeds)
                        many[0] += 1
                    except Broken:
                        before = told_of(guarded)
                        self.assertRaises(Broken, guarded.change, *deeds)
                        self.assertEqual(told_of(guarded), before)
                        many[1] += 1
        self.assertGreater(min(many), 20)


class CopyTest(HouseCase):
    def house(self):
        house = GuardedHouse(Book({"f": E}, {"s": ANY}), {"d": 0}, ("has", "d", "s"), ("within", "f", "f"))
        for number in (1, 2, 3):
            house.change(put("d", number))
        house.undo(2)
        return house

    def test_copy(self):
        for house in (self.house(), House(BOOK, {"d": 0})):
            other = house.copy()
            self.assertIs(type(other), type(house))
            self.assertEqual((told_of(other), other.asked), (told_of(house), house.asked))
            self.assertEqual(other, house)
            other.change(put("d", 9))
            self.assertNotEqual(told_of(other), told_of(house))
            self.assertNotEqual(other, house)
        house = self.house()
        other = house.copy()
        self.assertEqual((other.guards, other.looked, other.asked), (house.guards, (0,), 6))
        other.redo(2)
        self.assertEqual((other.data, house.data, other.asked, house.asked), ({"d": 3}, {"d": 1}, 7, 6))
        house.change(put("d", 7))
        self.assertEqual((other.data, other.undone, house.undone), ({"d": 3}, 0, 0))
        other.undo(3)
        self.assertEqual(other.data, {"d": 0})
        self.assertRaises(Broken, other.change, ("gone", "filter", "f"))

    def test_a_copy_is_in_no_trial(self):
        for house in (self.house(), House(BOOK, {"d": 0})):
            before = house.data

            def action(inner):
                inner.change(put("d", 5))
                other = inner.copy()
                self.assertEqual((other.depth, inner.depth, other.data), (0, 1, {"d": 5}))
                return other

            other = house.explore(action)
            self.assertEqual((house.data, other.data, other.depth), (before, {"d": 5}, 0))
            other.undo()
            self.assertEqual(other, house)

    def test_equal(self):
        book, more = Book({"f": E}, {"s": ANY}), Book({"f": E}, {"s": ("or", ANY, ANY)})
        guard, further = ("has", "d", "s"), ("within", "f", "f")
        makers = [
            lambda: House(book, {}), lambda: House(book, {"d": 1}), lambda: House(book, {"d": True}), lambda: House(book, {"e": 1}), lambda: House(more, {"d": 1}),
            lambda: GuardedHouse(book, {"d": 1}), lambda: GuardedHouse(book, {"d": 1}, guard), lambda: GuardedHouse(book, {"d": 1}, guard, guard),
            lambda: GuardedHouse(book, {"d": 1}, guard, further), lambda: GuardedHouse(book, {"d": 1}, further, guard), lambda: GuardedHouse(book, {"d": 2}, guard),
            lambda: GuardedHouse(more, {"d": 1}, guard), lambda: House(book, {"d": [1, {"a": 0}]}), lambda: House(book, {"d": [1, {"a": False}]}),
        ]
        for one in makers:
            for other in makers:
                self.assertIs(one() == other(), one is other)
                self.assertIs(one() != other(), one is not other)
        for value in any_values() + [book, {"d": 1}]:
            self.assertIs(makers[1]() == value, False)
            self.assertIs(makers[6]() == value, False)

    def test_equal_at_equal_moments(self):
        for make in (lambda: House(BOOK, {"d": 1}), lambda: GuardedHouse(BOOK, {"d": 1})):
            one, other = make(), make()
            one.change()
            self.assertNotEqual(one, other)
            other.change(put("d", 2))
            self.assertNotEqual(one, other)
            other.change(put("d", 1))
            one.change()
            self.assertEqual(one, other)
            one.undo()
            self.assertNotEqual(one, other)
            other.undo()
            other.change(put("d", 1))
            other.undo()
            one.change(put("d", 2))
            other.redo()
            self.assertNotEqual(one, other)
            one.change(put("d", 1))
            one.undo()
            one.change(put("d", 1))
            other.change()
            self.assertEqual(one, other)

    def test_without_guards(self):
        house = GuardedHouse(BOOK, {"d": 1})
        house.change(put("d", 2))
        house.undo()
        self.assertEqual((house.guards, house.looked, house.asked), ((), (), 0))


class ErrorsTest(unittest.TestCase):
    def test_which_error_plain_raises(self):
        """A filter that a guard names must have a plain one: neither of these errors lets it hold."""
        house = GuardedHouse(Book({"f": A, "g": A}, {}), {}, ("alike", "f", "g"))
        great = nested(40, lambda inner: ("pipe", S, inner), A)
        for deeds in ([("filter", "f", call("f"))], [("filter", "f", ("pipe", call("k"), S)), ("filter", "k", great)]):
            with self.assertRaises(Broken):
                house.change(*deeds)
        self.assertEqual((house.asked, Endless.__bases__, TooGreat.__bases__), (3, (ValueError,), (ValueError,)))


if __name__ == "__main__":
    unittest.main()

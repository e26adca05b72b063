"""Promises 2 and 10 to 12: data, their order and their places."""

import copy
import inspect
import itertools
import unittest

from sieveways import data
from sieveways.data import (
    alike, begins, comes_before, depth_of, is_datum, part_at, parts_of, places, sort_of, with_part, without,
)
from sieveways.errors import NoPart
from tests.values import any_values, nested

SORTED = [
    None, False, True, 0, 1, -1, 2, -2, 3, -3, 10, -10, 10 ** 30, -(10 ** 30),
    "", " ", "A", "a", "b", "~", "aa", "ab", "b ", [], {},
    [None], [True], [0], [-1], ["a"], [[]], [{}], {"a": None}, {"a": 0}, {"aa": None}, {"ab": None}, {"b": None},
    [None, None], [None, 0], [0, None], [0, 1], [1, 0], [[None]], [{"a": None}],
    {"a": None, "b": None}, {"a": None, "b": 0}, {"a": None, "c": None}, {"a": 0, "b": None}, {"a": [None]},
    {"b": None, "c": None}, {"b": [None]},
    [None, None, None], [None, [None]], [[None], None], [[None, None]],
]
NO_YES = {"null": None, "no": False, "yes": True, "number": 1, "text": "1", "list": [], "dict": {}}


def raised_by(call, *arguments):
    """The NoPart that a call raises."""
    try:
        call(*arguments)
    except NoPart as error:
        return error
    raise AssertionError(f"no error of {arguments}")


class InterfaceTest(unittest.TestCase):
    def test_names_of_arguments(self):
        told = {
            "is_datum": ["value"], "sort_of": ["datum"], "parts_of": ["datum"], "depth_of": ["datum"],
            "alike": ["one", "other"], "comes_before": ["one", "other"], "places": ["datum"],
            "part_at": ["datum", "place"], "with_part": ["datum", "place", "part"],
            "without": ["datum", "place"], "begins": ["one", "other"],
        }
        for name, arguments in told.items():
            function = getattr(data, name)
            self.assertEqual(list(inspect.signature(function).parameters), arguments)
            self.assertEqual(function.__module__, "sieveways.data")

    def test_arguments_by_name(self):
        self.assertTrue(is_datum(value=1))
        self.assertEqual(sort_of(datum=1), "number")
        self.assertEqual(parts_of(datum=[1]), 2)
        self.assertEqual(depth_of(datum=[1]), 2)
        self.assertFalse(alike(other=1, one=2))
        self.assertTrue(comes_before(other=2, one=1))
        self.assertEqual(list(places(datum=[1])), [(), (0,)])
        self.assertEqual(part_at(place=(0,), datum=[1]), 1)
        self.assertEqual(with_part(part=2, place=(0,), datum=[1]), [2])
        self.assertEqual(without(place=(0,), datum=[1]), [])
        self.assertTrue(begins(other=(0,), one=()))


class DatumTest(unittest.TestCase):
    def test_leaves(self):
        for value in (None, True, False, 0, -1, 1, "", "a b", "~", " ", '"', "\\"):
            self.assertIs(is_datum(value), True)

    def test_numbers_at_their_bounds(self):
        for sign in (1, -1):
            self.assertIs(is_datum(sign * 10 ** 30), True)
            self.assertIs(is_datum(sign * (10 ** 30 + 1)), False)
            self.assertIs(is_datum([sign * (10 ** 30 + 1)]), False)
            self.assertIs(is_datum(sign * 10 ** 99), False)

    def test_texts_at_their_bounds(self):
        self.assertTrue(is_datum("a" * 200))
        self.assertFalse(is_datum("a" * 201))
        self.assertFalse(is_datum({"a": "a" * 201}))
        for code in range(32, 127):
            self.assertEqual(is_datum(chr(code)), chr(code) != "%", code)
            self.assertEqual(is_datum("a" + chr(code) + "b"), chr(code) != "%", code)
        for letter in ("\n", "\t", "\x00", "\x1f", "\x7f", "\x80", "\u00e4", "\u0661", "\U0001f600"):
            self.assertFalse(is_datum(letter))
            self.assertFalse(is_datum(["a" + letter]))

    def test_keys_are_names(self):
        for key in ("a", "z", "abcdefgh", "each", "null"):
            self.assertTrue(is_datum({key: 1}))
        for key in ("", "abcdefghi", "A", "aB", "a1", "a b", "a_", "\u00e4", " ", "`", "{"):
            self.assertFalse(is_datum({key: 1}))
            self.assertFalse(is_datum([{"a": {"b": 1, key: 2}}]))
        for key in (None, True, 1, (), ("a",), NoPart(1)):
            self.assertFalse(is_datum({key: 1}))
            self.assertFalse(is_datum({"a": 1, key: 1}))

    def test_parts_at_their_bound(self):
        self.assertTrue(is_datum([0] * 999))
        self.assertFalse(is_datum([0] * 1000))
        keys = ["".join(letters) for letters in itertools.product("abcdefghij", repeat=3)]
        self.assertTrue(is_datum({key: 0 for key in keys[:999]}))
        self.assertFalse(is_datum({key: 0 for key in keys}))
        self.assertTrue(is_datum([[[0] * 99 for _ in range(9)], [0] * 97]))
        self.assertFalse(is_datum([[[0] * 99 for _ in range(9)], [0] * 98]))

    def test_levels_at_their_bound(self):
        for make in (lambda inner: [inner], lambda inner: {"a": inner}, lambda inner: [0, inner]):
            for core in (None, 1, "a", [], {}):
                self.assertTrue(is_datum(nested(60, make, core)))
                self.assertFalse(is_datum(nested(61, make, core)))

    def test_any_value(self):
        told = [repr(value) for value in any_values() if is_datum(value)]
        right = [
            None, True, False, 0, 1, -1, 99, 100, "", "a", "same", "abcdefghi", [], ["same"], [0], [[]], {}, {"a": 1},
        ]
        self.assertEqual(told, [repr(value) for value in right])
        for value in (("a",), [()], {"a": ()}, NoPart(1), [NoPart(1)], {"a": {"b": NoPart(1)}}):
            self.assertIs(is_datum(value), False)
        self.assertFalse(is_datum(nested(150)))

    def test_a_value_that_holds_one_list_very_often(self):
        self.assertFalse(is_datum(nested(50, lambda inner: [inner, inner])))
        self.assertFalse(is_datum(nested(150, lambda inner: {"a": inner, "b": inner})))


class SortTest(unittest.TestCase):
    def test_sorts(self):
        for sort, datum in NO_YES.items():
            self.assertEqual(sort_of(datum), sort)
        for datum in (0, -1, 10 ** 30):
            self.assertEqual(sort_of(datum), "number")
        self.assertEqual(sort_of(""), "text")
        self.assertEqual(sort_of([None]), "list")
        self.assertEqual(sort_of({"a": None}), "dict")

    def test_parts(self):
        for datum, many in ((None, 1), ("ab", 1), ([], 1), ({}, 1), ([1], 2), ({"a": 1, "b": [2, 3]}, 5),
                            ([[[]], [0, {"a": 1}]], 7), ([0] * 999, 1000), ([0] * 1000, 1001)):
            self.assertEqual(parts_of(datum), many)

    def test_depth(self):
        for datum, deep in ((None, 1), ("ab", 1), ([], 1), ({}, 1), ([1], 2), ([[]], 2), ({"a": {}}, 2),
                            ({"a": 1, "b": [2, [3]]}, 4), ([[[]], 0], 3), (nested(60), 60), (nested(61), 61)):
            self.assertEqual(depth_of(datum), deep)

    def test_alike(self):
        for one, other in itertools.product(SORTED, repeat=2):
            same = repr(one) == repr(other)
            self.assertIs(alike(one, copy.deepcopy(other)), same)

    def test_sorts_are_told_apart_also_within(self):
        for one, other in itertools.permutations((True, 1, "1", [1], None, False, 0, ""), 2):
            self.assertFalse(alike(one, other))
            self.assertFalse(alike([one], [other]))
            self.assertFalse(alike({"a": [0, one]}, {"a": [0, other]}))
        self.assertFalse(alike([], {}))
        self.assertFalse(alike([[]], [{}]))
        self.assertFalse(alike([1], [1, 2]))
        self.assertFalse(alike({"a": 1}, {"a": 1, "b": 1}))
        self.assertFalse(alike({"a": 1}, {"b": 1}))

    def test_the_order_of_keys_is_not_seen(self):
        one, other = {"a": 1, "b": {"c": 2, "d": 3}}, {"b": {"d": 3, "c": 2}, "a": 1}
        self.assertTrue(alike(one, other))
        self.assertFalse(comes_before(one, other))
        self.assertFalse(comes_before(other, one))
        self.assertEqual(list(places(one)), list(places(other)))
        self.assertEqual(repr(part_at(one, ())), repr(part_at(other, ())))
        self.assertEqual(repr(with_part(one, ("a",), 2)), repr(with_part(other, ("a",), 2)))
        self.assertEqual(repr(without(one, ("a",))), repr(without(other, ("a",))))


class OrderTest(unittest.TestCase):
    def test_the_order_of_many_data(self):
        for (at, one), (behind, other) in itertools.product(enumerate(SORTED), repeat=2):
            self.assertIs(comes_before(one, other), at < behind, (one, other))

    def test_each_pair_of_sorts(self):
        row = list(NO_YES.values())
        for (at, one), (behind, other) in itertools.product(enumerate(row), repeat=2):
            self.assertIs(comes_before(one, other), at < behind)
            self.assertIs(comes_before([one], [other]), at < behind)
            self.assertIs(comes_before({"a": one}, {"a": other}), at < behind)

    def test_fewer_parts_come_first(self):
        self.assertTrue(comes_before({}, [None]))
        self.assertTrue(comes_before("z" * 200, [None]))
        self.assertTrue(comes_before([{}, {}], [None, None, None]))
        self.assertTrue(comes_before({"z": "z"}, [None, None]))
        self.assertTrue(comes_before([[None, None], None], [None, [None, [None]]]))

    def test_numbers(self):
        row = [0, 1, -1, 2, -2, 3, -3, 9, -9, 10, -10, 10 ** 30, -(10 ** 30)]
        for (at, one), (behind, other) in itertools.product(enumerate(row), repeat=2):
            self.assertIs(comes_before(one, other), at < behind)

    def test_exactly_one_of_before_alike_and_behind(self):
        for one, other in itertools.product(SORTED, repeat=2):
            told = [comes_before(one, other), alike(one, other), comes_before(other, one)]
            self.assertEqual(told.count(True), 1)


class PlacesTest(unittest.TestCase):
    DATUM = {"b": [1, {"a": [], "c": None}], "a": "x", "c": {}}

    def test_all_places_in_order(self):
        told = [(), ("a",), ("b",), ("b", 0), ("b", 1), ("b", 1, "a"), ("b", 1, "c"), ("c",)]
        self.assertEqual(list(places(self.DATUM)), told)
        self.assertEqual(list(places(None)), [()])
        self.assertEqual(list(places([[0], 1])), [(), (0,), (0, 0), (1,)])
        self.assertEqual(list(places([0] * 12))[1:], [(index,) for index in range(12)])

    def test_places_are_as_many_as_parts(self):
        for datum in SORTED:
            self.assertEqual(len(list(places(datum))), parts_of(datum))

    def test_it_is_a_generator(self):
        self.assertTrue(inspect.isgenerator(places(None)))

    def test_part_at(self):
        for place, part in (((), self.DATUM), (("a",), "x"), (("b",), [1, {"a": [], "c": None}]), (("b", 0), 1),
                            (("b", 1, "a"), []), (("b", 1, "c"), None), (("c",), {})):
            self.assertEqual(part_at(self.DATUM, place), part)
        self.assertEqual(part_at(5, ()), 5)

    def test_a_part_is_new(self):
        datum = {"a": [1, [2]]}
        for place in ((), ("a",), ("a", 1)):
            part = part_at(datum, place)
            part.clear()
            self.assertEqual(datum, {"a": [1, [2]]})
        part_at(datum, ())["a"][1].append(3)
        self.assertEqual(datum, {"a": [1, [2]]})

    def test_with_part(self):
        self.assertEqual(with_part(self.DATUM, (), 3), 3)
        self.assertEqual(with_part([1, 2], (0,), [3]), [[3], 2])
        self.assertEqual(with_part([1, 2], (1,), None), [1, None])
        self.assertEqual(with_part({"a": {"b": 1, "c": 2}}, ("a", "b"), {}), {"a": {"b": {}, "c": 2}})
        self.assertEqual(with_part(self.DATUM, ("b", 1, "a"), True)["b"], [1, {"a": True, "c": None}])

    def test_without(self):
        self.assertEqual(without([1, 2, 3], (1,)), [1, 3])
        self.assertEqual(without([1], (0,)), [])
        self.assertEqual(without({"a": {"b": 1, "c": 2}}, ("a", "b")), {"a": {"c": 2}})
        self.assertEqual(without({"a": 1}, ("a",)), {})
        self.assertEqual(without([[0, 1], [2, 3]], (1, 0)), [[0, 1], [3]])

    def test_arguments_stay_as_they_were(self):
        datum, part = {"a": [1, [2]], "b": {}}, [[5]]
        for place in (("a",), ("a", 1), ("a", 1, 0), ("b",), ()):
            whole = with_part(datum, place, part)
            self.assertEqual([datum, part], [{"a": [1, [2]], "b": {}}, [[5]]])
            part_at_place = whole
            for step in place:
                part_at_place = part_at_place[step]
            part_at_place[0].append(6)
            if place:
                whole.clear()
            self.assertEqual([datum, part], [{"a": [1, [2]], "b": {}}, [[5]]])
        whole = without(datum, ("b",))
        whole["a"][1].append(3)
        whole["a"].append(4)
        self.assertEqual(datum, {"a": [1, [2]], "b": {}})

    def test_a_part_handed_in_may_be_changed_later(self):
        part = [5]
        whole = with_part([0], (0,), part)
        part.append(6)
        self.assertEqual(whole, [[5]])
        part = [5]
        whole = with_part([0], (), part)
        part.append(6)
        self.assertEqual(whole, [5])

    def test_a_datum_may_be_put_into_itself(self):
        datum = [0, 1]
        self.assertEqual(with_part(datum, (0,), datum), [[0, 1], 1])
        self.assertEqual(datum, [0, 1])


class NoPartTest(unittest.TestCase):
    def check_no_part(self, datum, place):
        for call, rest in ((part_at, ()), (with_part, (None,)), (without, ())):
            before = copy.deepcopy(datum)
            error = raised_by(call, datum, place, *rest)
            self.assertIs(error.place, place)
            self.assertEqual(datum, before)

    def test_places_that_lead_to_none(self):
        datum = {"a": [1, {"b": 2}], "c": "text", "d": None}
        for place in (("b",), ("a", 2), ("a", -1), ("a", -2), ("a", True), ("a", False), ("a", "b"), ("a", 0, 0),
                      ("a", 1, "a"), ("a", 1, "b", "b"), ("c", 0), ("d", "a"), ("d", 0), (0,), (None,), ("",),
                      ("a", None), ("a", (0,)), ("a", [0]), ([],), ({},), (("a",),), ("a", 1, ["b"]), ("a", 10 ** 99)):
            self.check_no_part(datum, place)

    def test_bools_and_negative_numbers_are_no_indexes(self):
        for place in ((True,), (False,), (-1,), (-2,), (2,), ("0",)):
            self.check_no_part([5, 6], place)
            self.check_no_part([[5, 6], [5, 6]], (1,) + place)

    def test_a_list_is_no_place(self):
        for place in ([], ["a"], ["a", 0]):
            self.check_no_part({"a": [1]}, place)

    def test_any_value(self):
        for datum in (None, [], {}, "text"):
            for value in any_values():
                if not isinstance(value, tuple) or value:
                    self.check_no_part(datum, value)

    def test_the_empty_place(self):
        self.assertEqual(part_at([1], ()), [1])
        self.assertEqual(with_part([1], (), {}), {})
        for datum in (None, [], [1], {"a": 1}):
            place = ()
            self.assertEqual(raised_by(without, datum, place).place, ())


class BeginsTest(unittest.TestCase):
    def test_begins(self):
        for one, other, told in (
            ((), (), True), ((), ("a",), True), (("a",), (), False), (("a",), ("a",), True),
            (("a",), ("a", 0), True), (("a", 0), ("a",), False), (("a",), ("b", 0), False), ((0,), (0, 0), True),
            ((0, 1), (0, 0, 1), False), ((0,), ("a",), False), (("a",), ("ab",), False), ((1,), (10,), False),
        ):
            self.assertIs(begins(one, other), told)


if __name__ == "__main__":
    unittest.main()

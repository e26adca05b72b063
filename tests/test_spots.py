"""Promise 25: spots, the parts that stand there, and filters with other parts there."""

import inspect
import types
import unittest

from sieveways import spots as module
from sieveways.errors import NoSpot
from sieveways.filters import is_filter, is_test
from sieveways.spots import part_at_spot, spots, with_spot
from tests.test_filters import FILTERS, TESTS, around, tree
from tests.values import any_values, nested

S = ("same",)
A = ("field", "a")
YES = ("is", "yes")
WIDE = (
    "reduce", ("if", ("at", ("pipe", S, A), ("not", YES)), S, ("item", 1)), "x",
    ("dict", (("b", ("call", "f", (S, A))), ("a", ("leaf", None)))), ("def", "g", ("u",), ("name", "x"), A),
)
WIDE_SPOTS = [
    (), (0,), (0, 0), (0, 0, 0), (0, 0, 0, 0), (0, 0, 0, 1), (0, 0, 1), (0, 0, 1, 0), (0, 1), (0, 2), (1,), (1, 0),
    (1, 0, 0), (1, 0, 1), (1, 1), (2,), (2, 0), (2, 1),
]


class InterfaceTest(unittest.TestCase):
    def test_names_of_arguments(self):
        told = {"spots": ["term"], "part_at_spot": ["term", "spot"], "with_spot": ["term", "spot", "part"]}
        for name, arguments in told.items():
            function = getattr(module, name)
            self.assertEqual(list(inspect.signature(function).parameters), arguments)
            self.assertEqual(function.__module__, "sieveways.spots")
        self.assertEqual(list(spots(term=S)), [()])
        self.assertEqual(part_at_spot(term=S, spot=()), S)
        self.assertEqual(with_spot(term=S, spot=(), part=A), A)


class SpotsTest(unittest.TestCase):
    def test_it_is_a_generator(self):
        self.assertIsInstance(spots(S), types.GeneratorType)

    def test_all_spots_in_reading_order(self):
        self.assertEqual(list(spots(WIDE)), WIDE_SPOTS)

    def test_each_form(self):
        many = {
            0: "same field item every none fail leaf name is equal", 1: "list first take fails places drop try not",
            2: "pipe both sum less product alike before as catch def other change add append at and or", 3: "if when",
        }
        for term in FILTERS + TESTS:
            if term[0] not in ("dict", "call", "reduce"):
                direct = [spot for spot in spots(term) if len(spot) == 1]
                told = [number for number, words in many.items() if term[0] in words.split()]
                self.assertEqual(direct, [(number,) for number in range(told[0])], term)
        self.assertEqual(list(spots(("reduce", S, "x", A, S))), [(), (0,), (1,), (2,)])
        self.assertEqual(list(spots(("dict", ()))), [()])
        self.assertEqual(list(spots(("dict", (("b", S), ("a", ("list", S)))))), [(), (0,), (1,), (1, 0)])
        self.assertEqual(list(spots(("call", "f", (S, S, S)))), [(), (0,), (1,), (2,)])

    def test_a_test_stands_in_its_place(self):
        term = ("if", ("and", YES, ("at", A, YES)), S, A)
        told = [(), (0,), (0, 0), (0, 1), (0, 1, 0), (0, 1, 1), (1,), (2,)]
        self.assertEqual(list(spots(term)), told)
        self.assertEqual(list(spots(term[1])), [spot[1:] for spot in told if spot[:1] == (0,)])

    def test_great_filters(self):
        self.assertEqual(len(list(spots(tree("both", 100, S)))), 199)
        self.assertEqual(list(spots(nested(40, lambda inner: ("list", inner), S)))[-1], (0,) * 39)


class PartTest(unittest.TestCase):
    def test_each_part(self):
        told = [part_at_spot(WIDE, spot) for spot in WIDE_SPOTS]
        self.assertEqual(told[0], WIDE)
        self.assertEqual([part[0] for part in told], (
            "reduce if at pipe same field not is same item dict call same field leaf def name field"
        ).split())
        self.assertEqual(part_at_spot(WIDE, (1, 0)), ("call", "f", (S, A)))
        self.assertEqual(part_at_spot(YES, ()), YES)

    def test_another_part_in_each_form(self):
        for part in FILTERS:
            for one, other in zip(around(S), around(part)):
                found = [spot for spot in spots(one) if with_spot(one, spot, part) == other]
                self.assertTrue(found, other)
                self.assertEqual(part_at_spot(other, found[0]), part)

    def test_with_itself(self):
        for term in FILTERS + TESTS + [WIDE]:
            for spot in spots(term):
                self.assertEqual(with_spot(term, spot, part_at_spot(term, spot)), term)

    def test_with_another_part(self):
        for spot in WIDE_SPOTS:
            old = part_at_spot(WIDE, spot)
            new = ("none",) if is_filter(old) else ("equal", 3)
            whole = with_spot(WIDE, spot, new)
            self.assertTrue(is_filter(whole), whole)
            self.assertEqual(part_at_spot(whole, spot), new)
            for other in WIDE_SPOTS:
                if other[:len(spot)] != spot and spot[:len(other)] != other:
                    self.assertEqual(part_at_spot(whole, other), part_at_spot(WIDE, other))
        self.assertEqual(with_spot(WIDE, (), S), S)
        self.assertEqual(with_spot(("if", YES, S, A), (0,), ("not", YES)), ("if", ("not", YES), S, A))
        self.assertEqual(with_spot(("not", ("at", S, YES)), (0, 0), A), ("not", ("at", A, YES)))
        self.assertTrue(is_test(with_spot(("and", YES, YES), (1,), ("equal", 1))))
        self.assertEqual(with_spot(("dict", (("b", S), ("a", S))), (1,), A), ("dict", (("b", S), ("a", A))))

    def test_no_spot(self):
        wrong = [value for value in any_values() if value not in ((), (0,))]
        wrong += [(-1,), (3,), (0, 3), (0, -1), (1, 2), (0, 0, 0, 0, 0), (True,), (False,), (0, False), (0, True),
                  [], [0], [0, 0], (0, [0]), (0, (0,)), ((0,),), ("0",), (0, None), (10 ** 99,), 0, 1, "", (0, 0, 2),
                  (1, 1, 0), (2, 2), (3, 0), range(1)]
        for spot in wrong:
            for call in (lambda: part_at_spot(WIDE, spot), lambda: with_spot(WIDE, spot, S)):
                with self.assertRaises(NoSpot) as caught:
                    call()
                self.assertIs(caught.exception.spot, spot)
                self.assertIsInstance(caught.exception, LookupError)
        for spot in ((0,), (0, 0), (1,)):
            self.assertRaises(NoSpot, part_at_spot, S, spot)
            self.assertRaises(NoSpot, part_at_spot, A, spot)


if __name__ == "__main__":
    unittest.main()

"""Promises 77 and 79: codes, how choosers are compiled, and codes without needless rows."""

import inspect
import unittest

from sieveways import code as module
from sieveways.choosers import chosen
from sieveways.code import Code, code_of, is_code, shorter
from sieveways.errors import InvalidCode, NotChooser
from sieveways.filters import is_chooser
from sieveways.machine import Machine
from tests.plain_machine import random_choosers, random_codes
from tests.test_filters import FILTERS, NO_TESTS, TESTS
from tests.test_machine import A, DATA, E, FAIL, GIVE, I0, NONE, OPEN, YES, asked
from tests.values import any_values, nested, shown

S = ("same",)
RIGHT = [
    [GIVE], [NONE], [FAIL], [A, GIVE], [("field", "abcdefgh"), GIVE], [("field", "each"), GIVE], [I0, GIVE], [("item", 99), GIVE],
    [E, GIVE], [("fork", 1), GIVE], [("fork", 2), GIVE, GIVE], [("jump", 1), NONE], [("jump", 3), GIVE, GIVE, FAIL],
    [("test", YES, 1), GIVE], [("test", ("at", A, ("not", YES)), 2), GIVE, NONE], [("shield", 1), GIVE], [("guard", 2), OPEN, GIVE],
    [OPEN, GIVE], [GIVE, NONE, FAIL], [FAIL, FAIL, GIVE], [E] * 300 + [GIVE],
]
# Rows that are wrong wherever they stand, with at least two rows behind them.
NO_ROWS = [
    None, True, 0, "give", (), ["give"], [], {}, ("Give",), ("",), (None,), (0,), (("give",),), ("give", 1), ("give", None),
    ("same",), ("pipe", S, S), ("try", 1), ("every", 1), ("none", 1), ("fail", ()), ("open", 1), ("give", GIVE),
    ("field",), ("field", "A"), ("field", ""), ("field", "abcdefghi"), ("field", 1), ("field", None), ("field", "a", 1), ("field", ["a"]),
    ("item",), ("item", -1), ("item", 100), ("item", True), ("item", "0"), ("item", None), ("item", 0, 1), ("item", (0,)),
    ("fork",), ("fork", None), ("fork", "2"), ("fork", ()), ("fork", True), ("fork", False), ("fork", -1), ("fork", 10 ** 99),
    ("jump",), ("jump", True), ("jump", (2,)), ("jump", -1), ("jump", "x"), ("shield",), ("shield", True), ("shield", -2), ("guard",),
    ("guard", None), ("guard", True), ("test",), ("test", YES), ("test", 5), ("test", YES, True), ("test", YES, -1),
    ("test", YES, None), ("test", list(YES), 5), ["give", 1], ("test", S, 5), ("test", None, 5), ("test", (), 5),
]


class InterfaceTest(unittest.TestCase):
    def test_names_of_arguments(self):
        told = {Code: ["rows"], code_of: ["term"], is_code: ["value"], shorter: ["code"]}
        for function, names in told.items():
            self.assertEqual(list(inspect.signature(function).parameters), names)
            self.assertEqual(function.__module__, "sieveways.code")
        for name in ("__init__", "__len__", "__iter__", "__eq__", "rows"):
            self.assertIn(name, vars(Code))
        self.assertIsInstance(module.Code.rows, property)

    def test_by_name(self):
        code = Code(rows=[GIVE])
        self.assertEqual((code_of(term=S), shorter(code=code)), (code, code))
        self.assertIs(is_code(value=[GIVE]), True)


class CodeTest(unittest.TestCase):
    def wrong(self, rows, index):
        with self.assertRaises(InvalidCode) as caught:
            Code(rows)
        self.assertEqual(shown(caught.exception.index), shown(index), rows)
        self.assertIsInstance(caught.exception, ValueError)
        self.assertIs(is_code(rows), False)

    def test_right_rows(self):
        for rows in RIGHT:
            self.assertIs(is_code(rows), True, rows)
            self.assertIs(is_code(tuple(rows)), True, rows)
            code = Code(rows)
            self.assertEqual((code.rows, len(code), list(code)), (tuple(rows), len(rows), rows))
            self.assertEqual(code, Code(tuple(rows)))
        for test in TESTS:
            self.assertEqual(Code([("test", test, 1), GIVE]).rows[0], ("test", test, 1))

    def test_each_row_with_one_thing_wrong(self):
        for row in NO_ROWS:
            self.wrong([row, GIVE, GIVE], 0)
            self.wrong([A, row, GIVE, GIVE], 1)
            self.wrong((A, E, row, GIVE, NONE, FAIL), 2)
            self.wrong([A, row, None, GIVE], 1)
        for test in NO_TESTS:
            self.wrong([E, ("test", test, 2), GIVE], 1)

    def test_numbers_of_rows(self):
        for word in ("fork", "jump", "shield", "guard", "test"):
            row = lambda number: (word, YES, number) if word == "test" else (word, number)
            for number in (-1, 0, 1, 4, 5, 10 ** 50, True, None, "3", 2.5):
                self.wrong([E, row(number), GIVE, GIVE], 1)
            for number in (2, 3):
                self.assertIs(is_code([E, row(number), GIVE, GIVE]), True)
            self.wrong([E, GIVE, row(2)], 2)
            self.wrong([E, GIVE, row(3)], 2)

    def test_no_rows_and_last_rows(self):
        self.wrong([], 0)
        self.wrong((), 0)
        for row in (A, I0, E, OPEN):
            self.wrong([row], 1)
            self.wrong([GIVE, row], 2)
        # The first row that is none comes ahead of a wrong last one.
        self.wrong([None, E], 0)
        self.wrong([E, ("fork", 2)], 1)

    def test_any_row(self):
        for value in any_values():
            self.wrong([value, GIVE], 0)
            self.wrong([GIVE, value, GIVE], 1)
            self.wrong([GIVE, value], 1)

    def test_is_code_of_any_value(self):
        for value in any_values() + [Code([GIVE]), "give", {"give": 1}, GIVE, {0: GIVE}, [list(GIVE)], ([GIVE],), (GIVE, [])]:
            self.assertIs(is_code(value), False, value)

    def test_equal(self):
        codes = [[GIVE], [NONE], [GIVE, GIVE], [A, GIVE], [("item", 0), GIVE], [("item", 1), GIVE], [("fork", 1), GIVE], [("jump", 1), GIVE]]
        codes += [[("test", ("equal", leaf), 1), GIVE] for leaf in (0, 1, True, False, None, "", "1")]
        codes += [[("test", YES, 1), GIVE, GIVE], [("test", YES, 2), GIVE, GIVE]]
        for one in codes:
            for other in codes:
                self.assertIs(Code(one) == Code(tuple(other)), one is other, (one, other))
                self.assertIs(Code(one) != Code(other), one is not other)
        for value in any_values() + [[GIVE], (GIVE,), Machine(Code([GIVE]), 1)]:
            self.assertIs(Code([GIVE]) == value, False)

    def test_what_is_handed_in_stays(self):
        rows = [A, GIVE]
        code = Code(rows)
        rows[0] = FAIL
        self.assertEqual((code.rows, rows), ((A, GIVE), [FAIL, GIVE]))
        self.assertEqual(list(code), [A, GIVE])
        self.assertEqual(list(code), [A, GIVE])


class CodeOfTest(unittest.TestCase):
    def test_the_example(self):
        both = ("both", E, ("pipe", A, E))
        self.assertEqual(list(Machine(code_of(both), {"a": [1, 2]}).rest()), [[1, 2], 1, 2])

    def test_each_form(self):
        for term in (S, A, I0, E, NONE, FAIL, ("pipe", E, A), ("both", A, E), ("if", YES, A, E), ("try", A), ("other", A, E)):
            code = code_of(term)
            self.assertIsInstance(code, Code)
            self.assertIs(is_code(code.rows), True)
            self.assertEqual(code, code_of(term))
            for datum in DATA:
                machine = Machine(code, datum)
                found = list(machine.rest())
                self.assertEqual(len(found), len(chosen(term, datum)[0]))
                failing = chosen(term, datum)[1]
                self.assertEqual(machine.ask(), ("done",) if failing is None else ("failing", failing))

    def test_no_chooser(self):
        for term in FILTERS:
            try:
                chosen(term, None)
                self.assertIs(is_code(code_of(term).rows), True)
            except NotChooser as error:
                with self.assertRaises(NotChooser) as caught:
                    code_of(term)
                self.assertEqual(caught.exception.spot, error.spot)
        with self.assertRaises(NotChooser) as caught:
            code_of(("pipe", ("both", S, ("if", YES, ("leaf", 1), ("list", S))), ("leaf", 2)))
        self.assertEqual(caught.exception.spot, (0, 1, 1))

    def test_great_choosers(self):
        self.assertEqual(len(code_of(nested(40, lambda inner: ("pipe", S, inner), A))), 2)
        for term, _ in random_choosers(0, 40, 190):
            if is_chooser(term):
                self.assertIs(is_code(code_of(term).rows), True)


class ShorterTest(unittest.TestCase):
    def check(self, rows, told):
        code = Code(rows)
        self.assertEqual(shorter(code).rows, tuple(told), rows)
        self.assertEqual(code.rows, tuple(rows))
        self.assertEqual(shorter(Code(told)).rows, tuple(told))

    def test_what_stays(self):
        for rows in ([GIVE], [E, A, GIVE], [("fork", 2), GIVE, FAIL], [("fork", 1), GIVE], [("test", YES, 1), GIVE],
                     [("shield", 1), ("guard", 2), OPEN, GIVE], [("fork", 3), E, ("jump", 4), I0, GIVE]):
            self.check(rows, rows)

    def test_jumps_to_the_next_row(self):
        self.check([("jump", 1), GIVE], [GIVE])
        self.check([E, ("jump", 2), A, ("jump", 4), GIVE], [E, A, GIVE])
        self.check([("fork", 2), ("jump", 2), GIVE], [("fork", 1), GIVE])

    def test_chains_of_jumps(self):
        self.check([("jump", 2), GIVE, ("jump", 4), FAIL, ("jump", 5), NONE], [NONE])
        self.check([("fork", 2), GIVE, ("jump", 4), FAIL, ("jump", 6), FAIL, NONE], [("fork", 2), GIVE, NONE])
        self.check([("fork", 3), E, ("jump", 4), A, ("jump", 5), GIVE], [("fork", 3), E, ("jump", 4), A, GIVE])
        for word in ("shield", "guard", "fork"):
            self.check([(word, 2), GIVE, ("jump", 3), FAIL], [(word, 2), GIVE, FAIL])
        self.check([("test", YES, 2), GIVE, ("jump", 3), FAIL], [("test", YES, 2), GIVE, FAIL])

    def test_jumps_to_jumps_at_the_end(self):
        self.check([E, ("jump", 3), FAIL, ("jump", 4), ("jump", 5), GIVE], [E, GIVE])
        self.check([("fork", 2), ("jump", 3), ("jump", 3), ("jump", 4), GIVE], [("fork", 1), GIVE])

    def test_rows_that_cannot_be_come_to(self):
        self.check([GIVE, E, A, NONE], [GIVE])
        self.check([NONE, GIVE], [NONE])
        self.check([FAIL, ("fork", 3), E, GIVE], [FAIL])
        self.check([("fork", 4), GIVE, E, A, NONE, FAIL], [("fork", 2), GIVE, NONE])
        self.check([("fork", 3), ("jump", 4), E, A, GIVE], [("fork", 2), ("jump", 3), A, GIVE])
        # What is come to from such a row alone goes, too.
        self.check([GIVE, ("fork", 3), GIVE, A, FAIL], [GIVE])

    def test_only_when_others_are_gone(self):
        self.check([("jump", 3), E, A, I0, GIVE], [I0, GIVE])
        self.check([E, ("jump", 4), A, GIVE, I0, GIVE], [E, I0, GIVE])
        self.check([("test", YES, 2), ("jump", 4), ("jump", 4), FAIL, GIVE], [("test", YES, 1), GIVE])
        self.check([("fork", 3), ("jump", 5), E, ("jump", 5), A, GIVE], [("fork", 1), GIVE])

    def test_all_at_once(self):
        rows = [("fork", 4), ("test", YES, 3), ("jump", 6), ("jump", 7), ("jump", 5), E, ("jump", 8), ("jump", 8), GIVE, NONE]
        self.check(rows, [("fork", 3), ("test", YES, 4), ("jump", 4), E, GIVE])

    def test_it_does_the_same(self):
        for code, random in random_codes(3000, 3500, 16):
            less = shorter(code)
            self.assertLessEqual(len(less), len(code))
            self.assertEqual(shorter(less), less)
            for datum in DATA:
                limit = random.choice([0, 1, 2, 5, 1000])
                self.assertEqual(asked(Machine(less, datum, limit=limit)), asked(Machine(code, datum, limit=limit)), code.rows)

    def test_of_choosers(self):
        for term, _ in random_choosers(3000, 3200):
            code = code_of(term)
            less = shorter(code)
            for datum in DATA:
                self.assertEqual(asked(Machine(less, datum)), asked(Machine(code, datum)), term)

    def test_step_by_step(self):
        for code, _ in random_codes(3500, 4200, 16):
            self.assertEqual(shorter(code).rows, plain_shorter(code.rows), code.rows)


def plain_shorter(rows):
    """The rows that come of the three rules of the document, one small change after the other."""
    changed = True
    while changed:
        changed = False
        for index, row in enumerate(rows):
            if has_number(row) and rows[row[-1]][0] == "jump":
                rows = rows[:index] + (row[:-1] + (rows[row[-1]][1],),) + rows[index + 1:]
                changed = True
        come_to = {0}
        for index, row in enumerate(rows):
            if index in come_to:
                come_to |= set() if row[0] in ("jump", "give", "none", "fail") else {index + 1}
                come_to |= {row[-1]} if has_number(row) else set()
        gone = [index for index in range(len(rows)) if index not in come_to]
        if not gone:
            gone = [index for index, row in enumerate(rows) if row == ("jump", index + 1)]
            gone = [index for index in gone if not any(has_number(row) and row[-1] == index for row in rows)]
        if gone:
            changed = True
            index = gone[0]
            left = rows[:index] + rows[index + 1:]
            rows = tuple(row[:-1] + (row[-1] - (row[-1] > index),) if has_number(row) else row for row in left)
    return rows


def has_number(row):
    return row[0] in ("fork", "jump", "test", "shield", "guard")


if __name__ == "__main__":
    unittest.main()

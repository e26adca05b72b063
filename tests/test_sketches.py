"""Promises 44 to 46: sketches, the questions that can be asked there with their answers, and choosers run on them."""

import copy
import inspect
import unittest

from sieveways import sketches as module
from sieveways.choosers import chosen
from sieveways.errors import NoQuestion, NotChooser
from sieveways.sketches import answers, sketched
from tests.brute import Maker
from tests.values import any_values

S = ("same",)
A = ("field", "a")
C = ("field", "c")
E = ("every",)
NONE = ("none",)
YES = ("is", "yes")
HOLE = ("hole",)
ABSENT = ("absent",)
NULL = ("leaf", None)
SORT, VALUE, MORE = ("sort",), ("value",), ("more",)


def item(index):
    return ("item", index)


def test_of(*tests):
    """A chooser that asks these tests."""
    term = S
    for test in reversed(tests):
        term = ("if", test, term, NONE)
    return term


def a_list(*inner, closed=False):
    return ("list", inner, closed)


class InterfaceTest(unittest.TestCase):
    def test_names_of_arguments(self):
        told = {"answers": ["f", "g", "sketch", "place", "question"], "sketched": ["f", "g", "sketch"]}
        for name, arguments in told.items():
            function = getattr(module, name)
            self.assertEqual(list(inspect.signature(function).parameters), arguments)
            self.assertEqual(function.__module__, "sieveways.sketches")
        self.assertEqual(sketched(f=S, g=S, sketch=HOLE), ("rows", (((),), True), (((),), True)))
        self.assertEqual(len(answers(f=S, g=S, sketch=HOLE, place=(), question=SORT)), 7)

    def test_no_chooser(self):
        for first, second, spot in (
            (("list", S), S, ()), (S, ("pipe", S, ("list", S)), (1,)), (("both", S, ("first", S)), ("list", S), (1,)),
        ):
            for call in (lambda: sketched(first, second, HOLE), lambda: answers(first, second, HOLE, (9,), "no")):
                with self.assertRaises(NotChooser) as caught:
                    call()
                self.assertEqual(caught.exception.spot, spot)


class AnswersTest(unittest.TestCase):
    def check(self, f, g, sketch, place, question, told):
        before = copy.deepcopy(sketch)
        found = answers(f, g, sketch, place, question)
        self.assertIsInstance(found, list)
        self.assertEqual(repr(found), repr(told))
        self.assertEqual(sketch, before)
        found.append(None)
        self.assertEqual(answers(f, g, sketch, place, question), told)

    def test_sort(self):
        leaves = [NULL, ("leaf", False), ("leaf", True), ("number",), ("text",), ("list", (), False)]
        self.check(S, E, HOLE, (), SORT, leaves + [("dict", (), (None,))])
        self.check(A, C, HOLE, (), SORT, leaves + [("dict", (), (None, None, None))])
        whole = ("list", (NULL, HOLE), True)
        told = [("list", (NULL, part), True) for part in leaves + [("dict", (), (None, None))]]
        self.check(A, S, whole, (1,), SORT, told)
        within = ("dict", (("a", ABSENT),), (None, (("aa", HOLE),)))
        told = [("dict", (("a", ABSENT),), (None, (("aa", part),))) for part in leaves + [("dict", (), (None, None))]]
        self.check(A, A, within, ("aa",), SORT, told)

    def test_value(self):
        f = test_of(("equal", 2), ("equal", "b"), ("equal", None))
        g = test_of(("equal", -1), ("at", A, ("equal", "")), ("equal", True))
        self.check(f, g, ("number",), (), VALUE, [("leaf", -1), ("leaf", 2), ("other", "number")])
        self.check(f, g, ("text",), (), VALUE, [("leaf", ""), ("leaf", "b"), ("other", "text")])
        self.check(S, S, ("number",), (), VALUE, [("other", "number")])
        f = test_of(("equal", 1), ("equal", -2), ("equal", 0), ("equal", 2), ("equal", -1), ("equal", 1))
        told = [("leaf", number) for number in (0, 1, -1, 2, -2)] + [("other", "number")]
        self.check(f, S, ("number",), (), VALUE, told)
        f = test_of(("equal", "b"), ("equal", "aa"), ("equal", "B"), ("equal", " "))
        told = [("leaf", text) for text in (" ", "B", "b", "aa")] + [("other", "text")]
        self.check(S, f, ("text",), (), VALUE, told)
        self.check(S, f, a_list(("text",)), (0,), VALUE, [a_list(part) for part in told])

    def test_more_with_named_indexes(self):
        f, g = item(1), item(0)
        self.check(f, g, a_list(), (), MORE, [a_list(closed=True), a_list(HOLE)])
        self.check(f, g, a_list(NULL), (), MORE, [a_list(NULL, closed=True), a_list(NULL, HOLE)])
        # Named elements do not count, however many unnamed ones there are.
        full = a_list(a_list(NULL, NULL, NULL, NULL), a_list())
        self.check(f, g, full, (1,), MORE, [
            a_list(full[1][0], a_list(closed=True)), a_list(full[1][0], a_list(HOLE)),
        ])
        self.check(f, g, full, (0,), MORE, [a_list(a_list(NULL, NULL, NULL, NULL, closed=True), a_list())])
        # A greater index names those below it, also in the walk of a test.
        f = test_of(("at", item(2), YES))
        two = a_list(NULL, NULL, NULL, NULL)
        self.check(f, S, two, (), MORE, [a_list(NULL, NULL, NULL, NULL, closed=True),
                                         a_list(NULL, NULL, NULL, NULL, HOLE)])
        self.check(f, S, a_list(two), (0,), MORE, [
            a_list(a_list(NULL, NULL, NULL, NULL, closed=True)), a_list(a_list(NULL, NULL, NULL, NULL, HOLE)),
        ])

    def test_more_with_unnamed_ones(self):
        one, two = a_list(HOLE), a_list(HOLE, NULL)
        self.check(E, S, one, (), MORE, [a_list(HOLE, closed=True), a_list(HOLE, HOLE)])
        self.check(E, S, two, (), MORE, [a_list(HOLE, NULL, closed=True)])
        # An element within an unnamed one takes its place; a second one there is a further one.
        self.check(E, S, a_list(a_list(), HOLE), (0,), MORE, [a_list(a_list(closed=True), HOLE),
                                                             a_list(a_list(HOLE), HOLE)])
        self.check(E, S, a_list(a_list(HOLE), HOLE), (0,), MORE, [a_list(a_list(HOLE, closed=True), HOLE)])
        self.check(E, S, a_list(a_list(HOLE)), (0,), MORE, [a_list(a_list(HOLE, closed=True)), a_list(two)[:1] + (
            (a_list(HOLE, HOLE),), False)])
        self.check(E, S, a_list(a_list(HOLE, HOLE)), (), MORE, [a_list(a_list(HOLE, HOLE), closed=True)])
        self.check(E, S, a_list(a_list(a_list()), a_list(HOLE)), (0, 0), MORE, [
            a_list(a_list(a_list(closed=True)), a_list(HOLE)), a_list(a_list(a_list(HOLE)), a_list(HOLE)),
        ])
        # What stands elsewhere in the sketch counts, too.
        named = ("dict", (("a", two), ("c", a_list())), (None, None, None))
        self.check(A, C, named, ("c",), MORE, [("dict", (("a", two), ("c", a_list(closed=True))), (None,) * 3)])
        named = ("dict", (("a", one), ("c", a_list())), (None, None, (("ca", HOLE),)))
        self.check(A, C, named, ("c",), MORE, [named[:1] + ((("a", one), ("c", a_list(closed=True))),) + named[2:]])

    def test_key(self):
        empty = ("dict", (), (None, None, None))
        self.check(A, C, empty, (), ("key", "c"), [("dict", (("c", part),), (None,) * 3) for part in (ABSENT, HOLE)])
        told = ("dict", (("c", NULL),), (None, (), None))
        self.check(A, C, told, (), ("key", "a"), [
            ("dict", (("a", part), ("c", NULL)), (None, (), None)) for part in (ABSENT, HOLE)
        ])
        self.check(test_of(("at", C, YES)), S, ("dict", (), (None, None)), (), ("key", "c"), [
            ("dict", (("c", part),), (None, None)) for part in (ABSENT, HOLE)
        ])
        full = a_list(HOLE, ("dict", (), (None, None)))
        self.check(A, S, full, (1,), ("key", "a"), [
            a_list(HOLE, ("dict", (("a", part),), (None, None))) for part in (ABSENT, HOLE)
        ])

    def gaps(self, *names):
        return [tuple((name, HOLE) for name in names[:many]) for many in range(len(names) + 1)]

    def test_gap(self):
        self.check(S, E, ("dict", (), (None,)), (), ("gap", 0), [("dict", (), (gap,)) for gap in self.gaps("a", "aa")])
        empty = ("dict", (), (None, None, None))
        f = ("field", "b")
        self.check(f, C, empty, (), ("gap", 0), [("dict", (), (gap, None, None)) for gap in self.gaps("a", "aa")])
        self.check(f, C, empty, (), ("gap", 1), [("dict", (), (None, gap, None)) for gap in self.gaps("ba", "baa")])
        self.check(f, C, empty, (), ("gap", 2), [("dict", (), (None, None, gap)) for gap in self.gaps("ca", "caa")])

    def test_gaps_in_which_no_name_or_one_name_can_stand(self):
        for fields, number, names in (
            (("a",), 0, ()), (("a", "aa"), 1, ()), (("a", "aaa"), 1, ("aa",)), (("aa",), 0, ("a",)),
            (("zzzzzzzz",), 1, ()), (("zzzzzzzy",), 1, ("zzzzzzzz",)), (("zzzzzzzx",), 1, ("zzzzzzzy", "zzzzzzzz")),
            (("aaaaaaaa", "aaaaaaab"), 1, ()), (("aaaaaaaa", "aaaaaaac"), 1, ("aaaaaaab",)),
            (("aaaaaaaz", "aaaaaab"), 1, ()), (("aaaaaaaz", "aaaaaaba"), 1, ("aaaaaab",)),
            (("abzzzzzz", "ad"), 1, ("ac", "aca")), (("azzzzzzz", "b"), 1, ()), (("azzzzzzz",), 1, ("b", "ba")),
        ):
            f = ("both", ("field", fields[0]), ("field", fields[-1]))
            empty = (None,) * (len(fields) + 1)
            told = [("dict", (), empty[:number] + (gap,) + empty[number + 1:]) for gap in self.gaps(*names)]
            self.check(f, S, ("dict", (), empty), (), ("gap", number), told)

    def test_gap_where_the_datum_must_stay_thin(self):
        dict_of = lambda gap: ("dict", (), (gap,))
        none, one, two = self.gaps("a", "aa")
        self.check(E, S, a_list(HOLE, dict_of(None)), (1,), ("gap", 0), [
            a_list(HOLE, dict_of(none)), a_list(HOLE, dict_of(one)),
        ])
        self.check(E, S, a_list(dict_of(None)), (0,), ("gap", 0), [a_list(dict_of(gap)) for gap in (none, one, two)])
        self.check(E, S, a_list(a_list(HOLE, HOLE), closed=True)[:1] + ((a_list(HOLE), dict_of(None)), True), (1,),
                   ("gap", 0), [a_list(a_list(HOLE), dict_of(gap), closed=True) for gap in (none, one)])
        full = ("dict", (("a", a_list(HOLE, HOLE)),), (None, None))
        self.check(A, E, full, (), ("gap", 1), [("dict", full[1], (None, ()))])

    def test_no_question(self):
        inner = ("dict", (("a", HOLE), ("c", ABSENT)), (None, (("b", ("number",)),), None))
        sketch = a_list(HOLE, ("number",), ("text",), ("other", "text"), a_list(closed=True), inner, NULL)
        right = {
            (0,): [SORT], (1,): [VALUE], (2,): [VALUE], (5, "a"): [SORT], (5, "b"): [VALUE], (): [MORE],
            (5,): [("gap", 0), ("gap", 2), ("key", "d")],
        }
        questions = [SORT, VALUE, MORE, ("key", "a"), ("key", "c"), ("key", "b"), ("key", "d"), ("gap", 0), ("gap", 1),
                     ("gap", 2), ("gap", 3), ("gap", 4), ("gap", -1), ("gap", True), ("gap", False), ("gap", "0"),
                     ("key", 0), ("key", None), ("key", ("a",)), ("key", ["d"]), ("key",), ("gap",), ("sort", 0),
                     ("value", 1), ("more", 0), ("gap", 0, 0), ("key", "d", "d"), ["sort"], ["gap", 0], "sort", "gap",
                     ("Sort",), ("hole",), (("sort",),), ("gap", [0])]
        f = ("both", A, ("both", C, ("field", "d")))
        inner = inner[:2] + (inner[2] + (None,),)
        sketch = a_list(*sketch[1][:5], inner, NULL)
        right[(5,)].append(("gap", 3))
        places = list(right) + [(3,), (4,), (6,)]
        for place in places:
            for question in questions + any_values():
                known = [told for told in right.get(place, []) if told == question and repr(told) == repr(question)]
                if known:
                    self.assertTrue(answers(f, E, sketch, place, question))
                else:
                    self.check_no_question(f, sketch, place, question)
        nowhere = [value for value in any_values() if value not in places and value != (True,)]
        for place in nowhere + [(7,), (-1,), (True,), (0, 0), (5, "c"), (5, "d"), (5, 0), ("a",), [], [0], (4, 0), (5, None),
                                (False,), "", (5, ["a"]), ((5, "a"),)]:
            for question in (SORT, MORE, VALUE, ("gap", 0), ("key", "d"), None):
                self.check_no_question(f, sketch, place, question)

    def check_no_question(self, f, sketch, place, question):
        with self.assertRaises(NoQuestion) as caught:
            answers(f, E, sketch, place, question)
        self.assertIs(caught.exception.question, question)
        self.assertIsInstance(caught.exception, ValueError)


class SketchedTest(unittest.TestCase):
    def asks(self, f, g, sketch, place, question):
        self.assertEqual(repr(sketched(f, g, sketch)), repr(("ask", place, question)))

    def rows(self, f, g, sketch, row, other):
        self.assertEqual(repr(sketched(f, g, sketch)), repr(("rows", row, other)))

    def test_what_looks_at_nothing(self):
        for term, row in ((S, (((),), True)), (NONE, ((), True)), (("fail",), ((), False)),
                          (("pipe", NONE, A), ((), True)), (("both", S, ("fail",)), (((),), False)),
                          (("try", ("fail",)), ((), True)), (("other", NONE, S), (((),), True)),
                          (("other", S, A), (((),), True)), (("both", ("fail",), A), ((), False))):
            self.rows(term, S, HOLE, row, (((),), True))

    def test_field_and_item(self):
        for term in (A, item(0), E, ("try", A), ("other", item(1), S)):
            self.asks(term, S, HOLE, (), SORT)
            self.asks(S, term, HOLE, (), SORT)
        self.asks(A, S, ("dict", (), (None, None)), (), ("key", "a"))
        self.rows(A, S, ("dict", (("a", HOLE),), (None, None)), ((("a",),), True), (((),), True))
        self.rows(A, ("try", A), ("dict", (("a", ABSENT),), (None, None)), ((), False), ((), True))
        self.rows(A, E, NULL, ((), False), ((), False))
        self.rows(A, item(0), ("number",), ((), False), ((), False))
        self.rows(A, S, a_list(), ((), False), (((),), True))
        self.rows(item(0), S, ("dict", (), (None,)), ((), False), (((),), True))

    def test_an_item_asks_for_more_one_by_one(self):
        self.asks(item(1), S, a_list(), (), MORE)
        self.asks(item(1), S, a_list(HOLE), (), MORE)
        self.rows(item(1), item(0), a_list(HOLE, HOLE), (((1,),), True), (((0,),), True))
        self.rows(item(1), item(0), a_list(HOLE, closed=True), ((), False), (((0,),), True))
        self.rows(item(0), item(1), a_list(closed=True), ((), False), ((), False))

    def test_f_ahead_of_g(self):
        empty = ("dict", (), (None,) * 3)
        self.asks(A, C, empty, (), ("key", "a"))
        self.asks(C, A, empty, (), ("key", "c"))
        self.asks(A, C, ("dict", (("a", ABSENT),), (None,) * 3), (), ("key", "c"))
        self.asks(("both", C, A), A, empty, (), ("key", "c"))
        self.asks(("both", C, A), A, ("dict", (("c", NULL),), (None,) * 3), (), ("key", "a"))
        self.rows(("both", C, A), S, ("dict", (("c", ABSENT),), (None,) * 3), ((), False), (((),), True))

    def test_every_in_a_list(self):
        self.asks(E, S, a_list(), (), MORE)
        self.rows(E, S, a_list(HOLE, HOLE, closed=True), (((0,), (1,)), True), (((),), True))
        f = ("pipe", E, A)
        self.asks(f, S, a_list(HOLE), (0,), SORT)
        there = ("dict", (("a", HOLE),), (None, None))
        self.asks(f, S, a_list(there), (), MORE)
        self.asks(f, S, a_list(there, HOLE), (1,), SORT)
        self.rows(f, S, a_list(there, NULL, HOLE), (((0, "a"),), False), (((),), True))
        # Only what is looked at must be known.
        self.rows(("pipe", E, ("fail",)), S, a_list(HOLE), ((), False), (((),), True))
        self.asks(("pipe", ("both", E, A), E), S, a_list(a_list(closed=True), a_list()), (1,), MORE)

    def test_every_in_a_dict(self):
        f = ("both", ("pipe", E, ("try", item(0))), ("both", ("field", "b"), C))
        empty = (None,) * 3
        self.asks(f, S, ("dict", (), empty), (), ("gap", 0))
        self.asks(f, S, ("dict", (), ((),) + empty[1:]), (), ("key", "b"))
        self.asks(f, S, ("dict", (), ((("a", HOLE), ("aa", HOLE)),) + empty[1:]), ("a",), SORT)
        self.asks(f, S, ("dict", (), ((("a", NULL), ("aa", HOLE)),) + empty[1:]), ("aa",), SORT)
        self.asks(f, S, ("dict", (), ((("a", NULL), ("aa", NULL)),) + empty[1:]), (), ("key", "b"))
        self.asks(f, S, ("dict", (("b", HOLE),), ((),) + empty[1:]), ("b",), SORT)
        self.asks(f, S, ("dict", (("b", NULL),), ((),) + empty[1:]), (), ("gap", 1))
        self.asks(f, S, ("dict", (("b", ABSENT), ("c", HOLE)), ((), (), None)), ("c",), SORT)
        self.asks(f, S, ("dict", (("b", ABSENT), ("c", a_list(HOLE))), ((), (), None)), (), ("gap", 2))
        done = ("dict", (("b", a_list(HOLE)), ("c", HOLE)), ((("a", a_list(NULL)),), (), ()))
        self.asks(f, S, done, ("c",), SORT)
        done = ("dict", (("b", a_list(HOLE)), ("c", NULL)), ((("a", a_list(NULL)),), (), ()))
        self.rows(f, E, done, ((("a", 0), ("b", 0), ("b",), ("c",)), True), ((("a",), ("b",), ("c",)), True))
        # A named key that is known ahead is not looked at ahead of the gap.
        self.asks(f, S, ("dict", (("b", HOLE), ("c", HOLE)), empty), (), ("gap", 0))

    def test_a_gap_in_which_no_name_can_stand_is_asked_for(self):
        f = ("both", E, ("both", A, ("field", "aa")))
        self.asks(f, S, ("dict", (), (None,) * 3), (), ("gap", 0))
        told = ("dict", (("a", ABSENT),), ((), None, None))
        self.asks(f, S, told, (), ("gap", 1))
        self.assertEqual(answers(f, S, told, (), ("gap", 1)), [("dict", (("a", ABSENT),), ((), (), None))])

    def test_tests(self):
        self.asks(test_of(("is", "list")), S, HOLE, (), SORT)
        self.asks(test_of(("equal", None)), S, HOLE, (), SORT)
        self.asks(test_of(("equal", 3)), S, HOLE, (), SORT)
        self.asks(test_of(("equal", 3)), S, ("number",), (), VALUE)
        self.asks(test_of(("equal", "3")), S, ("text",), (), VALUE)
        one, none = (((),), True), ((), True)
        for sketch, tests in (
            (("number",), [("is", "number"), ("not", ("equal", "3")), ("not", ("equal", True)), ("not", YES)]),
            (("other", "number"), [("is", "number"), ("not", ("equal", 3))]),
            (("other", "text"), [("is", "text"), ("not", ("equal", "")), ("not", ("equal", 0))]),
            (("leaf", 1), [("equal", 1), ("not", ("equal", True)), ("not", ("equal", 2)), ("is", "number")]),
            (("leaf", True), [YES, ("equal", True), ("not", ("equal", 1)), ("not", ("is", "no"))]),
            (("leaf", False), [("is", "no"), ("equal", False), ("not", ("equal", 0))]),
            (NULL, [("is", "null"), ("equal", None), ("not", ("at", A, YES)), ("not", ("at", item(0), YES))]),
            (("text",), [("is", "text"), ("not", ("is", "number")), ("not", ("equal", 1))]),
            (a_list(HOLE), [("is", "list"), ("not", ("equal", None)), ("not", ("at", A, YES))]),
            (("dict", (), (None,)), [("is", "dict"), ("not", ("at", item(0), YES))]),
            (HOLE, [("at", S, ("or", ("not", ("at", NONE, YES)), YES)), ("not", ("at", ("fail",), YES))]),
        ):
            for test in tests:
                self.rows(test_of(test), test_of(("not", test)), sketch, one, none)

    def test_the_second_test_is_looked_at_if_the_first_one_does_not_decide(self):
        for word, decided, open_one in (("and", ("leaf", False), ("leaf", True)), ("or", ("leaf", True), ("leaf", False))):
            test = (word, ("at", A, YES), ("at", C, YES))
            self.asks(test_of(test), S, ("dict", (("a", open_one),), (None,) * 3), (), ("key", "c"))
            told = ("rows", (((),), True) if word == "or" else ((), True), (((),), True))
            self.assertEqual(sketched(test_of(test), S, ("dict", (("a", decided),), (None,) * 3)), told)

    def test_try_and_other(self):
        there = ("dict", (("a", HOLE),), (None, None))
        gone = ("dict", (("a", ABSENT),), (None, None))
        self.rows(("try", A), ("other", A, S), there, ((("a",),), True), ((("a",),), True))
        self.rows(("try", A), ("other", A, S), gone, ((), True), ((), False))
        self.asks(("other", ("pipe", A, NONE), E), A, there, (), ("gap", 0))
        self.asks(("pipe", ("try", A), item(0)), A, there, ("a",), SORT)

    def test_like_the_run_on_each_datum(self):
        """Asked on till it is told, a sketch of a datum has the rows that the datum has."""
        naming = ("pipe", NONE, ("both", ("both", A, C), ("both", item(1), test_of(("equal", 0), ("equal", "b")))))
        for seed in range(200):
            maker = Maker(seed, leaves=(0, "b"))
            f, g = ("both", naming, maker.chooser(9)), maker.chooser(9)
            for datum in (None, True, 0, 1, "", "b", [], [0, {"aa": 2}, "b"], [[0], {"a": "b", "aa": 1}],
                          {"a": [1], "aa": 2, "c": {"a": {"c": 0}}}, {"ca": [0], "caa": [[], False]}):
                told = self.asked_on(f, g, datum)
                for row, term in zip(told, (f, g)):
                    places, failing = chosen(term, datum)
                    self.assertEqual(row, (places, failing is None), (term, datum))

    def asked_on(self, f, g, datum):
        sketch = HOLE
        told = sketched(f, g, sketch)
        while told[0] == "ask":
            fitting = [new for new in answers(f, g, sketch, told[1], told[2]) if self.fits(new, datum)]
            self.assertEqual(len(fitting), 1, (sketch, told, datum))
            sketch = fitting[0]
            told = sketched(f, g, sketch)
        return told[1:]

    def fits(self, sketch, datum):
        """Whether a datum is one of those that a sketch tells of, where a, c, 0 and "b" are named."""
        word = sketch[0]
        if word == "hole":
            return True
        if word == "leaf":
            return type(sketch[1]) is type(datum) and sketch[1] == datum
        if word in ("number", "text", "other"):
            right = type(datum) is {"number": int, "text": str}[sketch[-1]]
            return right and (word != "other" or datum not in (0, "b"))
        if word == "list":
            if not isinstance(datum, list) or len(datum) < len(sketch[1]) or sketch[2] and len(datum) > len(sketch[1]):
                return False
            return all(self.fits(part, inner) for part, inner in zip(sketch[1], datum))
        return isinstance(datum, dict) and self.fits_dict(sketch, datum)

    def fits_dict(self, sketch, datum):
        pairs = list(sketch[1])
        for gap, low, high in zip(sketch[2], ("", "a", "c"), ("a", "c", "zz")):
            pairs += gap or ()
            if gap is not None and [key for key, _ in gap] != sorted(key for key in datum if low < key < high):
                return False
        return all(key not in datum if part == ABSENT else key in datum and self.fits(part, datum[key])
                   for key, part in pairs)


if __name__ == "__main__":
    unittest.main()

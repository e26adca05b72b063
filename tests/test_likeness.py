"""Promises 40 to 43 and 47 to 49: rows, the least datum where choosers part, papers of likeness, needless parts."""

import inspect
import time
import unittest

from sieveways import likeness as module
from sieveways.choosers import chosen
from sieveways.data import alike, parts_of
from sieveways.errors import NotChooser
from sieveways.filters import is_chooser
from sieveways.likeness import (
    are_alike, is_likeness, likeness, needless, parting, places_within, row_of, thinned,
)
from sieveways.names import Names
from sieveways.sketches import answers, sketched
from sieveways.spots import part_at_spot, spots, with_spot
from tests.brute import Maker, all_data
from tests.values import any_values, nested

S = ("same",)
A = ("field", "a")
B = ("try", A)
C = ("field", "c")
E = ("every",)
NONE = ("none",)
FAIL = ("fail",)
YES = ("is", "yes")
NO = ("is", "no")
I0, I1 = ("item", 0), ("item", 1)
LIST = ("list", S)
TWO = ("both", S, S)
PAIRS = [
    (("pipe", E, ("both", A, A)), ("both", ("pipe", E, A), ("pipe", E, A))),
    (("pipe", E, ("both", B, B)), ("both", ("pipe", E, B), ("pipe", E, B))),
]


def at(walk, test):
    return ("at", walk, test)


def any_of(*tests):
    return tests[0] if len(tests) == 1 else ("or", tests[0], any_of(*tests[1:]))


def told_row(f, datum):
    places, failing = chosen(f, datum)
    return places, failing is None


def told_parting(f, g, datum):
    return told_row(f, datum) != told_row(g, datum)


def told_places(f, g, datum):
    (places, ends), (others, other_ends) = told_row(f, datum), told_row(g, datum)
    return ends and other_ends and any(place not in others for place in places)


def first_of_all(f, g, shows, most):
    """The first datum of few parts that shows something, all of them tried one by one."""
    names = Names((f, g))
    keys = set(names.fields) | {key for gap in names.gaps for key in gap}
    leaves = (None, False, True, *names.numbers_with_others(1), *names.texts_with_others(1))
    for datum in all_data(most, leaves, tuple(sorted(keys))):
        if shows(f, g, datum):
            return (datum,)
    return None


class InterfaceTest(unittest.TestCase):
    def test_names_of_arguments(self):
        told = {
            "row_of": ["f", "datum"], "parting": ["f", "g"], "are_alike": ["f", "g"], "places_within": ["f", "g"],
            "likeness": ["f", "g"], "is_likeness": ["f", "g", "value"], "needless": ["f"], "thinned": ["f"],
        }
        for name, arguments in told.items():
            function = getattr(module, name)
            self.assertEqual(list(inspect.signature(function).parameters), arguments)
            self.assertEqual(function.__module__, "sieveways.likeness")
            if "g" in arguments:
                function(**{argument: S for argument in arguments})
            elif arguments == ["f"]:
                function(f=S)

    def test_no_chooser(self):
        calls = [parting, are_alike, places_within, likeness, lambda f, g: is_likeness(f, g, None)]
        for wrong, spot in ((LIST, ()), (("pipe", S, LIST), (1,)), (("both", ("if", YES, S, LIST), LIST), (0, 2)),
                            (("first", S), ()), (("other", A, ("call", "f", ())), (1,))):
            for call in calls:
                for f, g in ((wrong, S), (S, wrong), (wrong, ("pipe", ("pipe", ("pipe", LIST, S), S), S))):
                    with self.assertRaises(NotChooser) as caught:
                        call(f, g)
                    self.assertEqual(caught.exception.spot, spot)
            for call in (needless, thinned, lambda f: row_of(f, None)):
                with self.assertRaises(NotChooser) as caught:
                    call(wrong)
                self.assertEqual(caught.exception.spot, spot)


class RowTest(unittest.TestCase):
    def check(self, term, datum, places, ends):
        told = row_of(term, datum)
        self.assertEqual(repr(told), repr((places, ends)))

    def test_rows(self):
        self.check(E, [1, 2], ((0,), (1,)), True)
        self.check(E, {"b": 1, "a": [2]}, (("a",), ("b",)), True)
        self.check(("pipe", E, E), {"b": [1], "a": {"c": 2}}, (("a", "c"), ("b", 0)), True)
        self.check(NONE, None, (), True)
        self.check(S, None, ((),), True)

    def test_doubles(self):
        self.check(("pipe", TWO, TWO), 1, ((),) * 4, True)
        self.check(("both", E, I0), [1, 2], ((0,), (1,), (0,)), True)

    def test_failings_of_whatever_word(self):
        for term in (FAIL, A, I0, E):
            self.check(term, None, (), False)
            self.check(("both", TWO, term), None, ((), ()), False)
        self.check(("pipe", E, A), [{"a": 1}, {"a": 2}, 3, {"a": 4}], ((0, "a"), (1, "a")), False)


class PartingTest(unittest.TestCase):
    def check(self, f, g, told):
        for one, other in ((f, g), (g, f)):
            found = parting(one, other)
            self.assertEqual(repr(found), repr(told), (one, other))
            self.assertIs(are_alike(one, other), told is None)
        if told is not None:
            self.assertTrue(told_parting(f, g, told[0]))

    def test_the_examples(self):
        self.check(*PAIRS[0], ([{"a": None}, None],))
        self.check(*PAIRS[1], ([{"a": None}, {"a": None}],))
        self.check(("both", A, NONE), A, None)
        self.check(("pipe", A, NONE), NONE, (None,))

    def test_by_a_failing(self):
        self.check(A, B, (None,))
        self.check(A, FAIL, ({"a": None},))
        self.check(FAIL, NONE, (None,))
        self.check(("both", S, FAIL), S, (None,))
        self.check(("both", FAIL, S), FAIL, None)
        self.check(("both", A, FAIL), ("both", A, ("pipe", A, FAIL)), None)
        self.check(I0, A, ([None],))
        self.check(E, ("both", ("pipe", E, NONE), E), None)
        self.check(("pipe", E, NONE), NONE, (None,))
        self.check(("pipe", E, ("pipe", A, NONE)), ("pipe", E, NONE), ([None],))

    def test_by_an_order(self):
        self.check(("both", A, C), ("both", C, A), ({"a": None},))
        self.check(("both", B, ("try", C)), ("both", ("try", C), B), ({"a": None, "c": None},))
        self.check(("both", ("try", I0), ("try", I1)), ("both", ("try", I1), ("try", I0)), ([None, None],))
        self.check(("both", S, ("try", A)), ("both", ("try", A), S), ({"a": None},))

    def test_by_a_double(self):
        self.check(TWO, S, (None,))
        self.check(("pipe", E, TWO), ("both", E, E), ([None, None],))
        self.check(("pipe", TWO, E), ("both", E, E), None)

    def test_by_two_elements(self):
        last = ("pipe", E, ("if", ("is", "dict"), S, NONE))
        self.check(("both", ("pipe", E, ("if", ("is", "list"), S, NONE)), last),
                   ("pipe", E, ("if", ("or", ("is", "list"), ("is", "dict")), S, NONE)), ([{}, []],))
        self.check(("pipe", E, ("pipe", TWO, ("if", YES, S, NONE))),
                   ("pipe", TWO, ("pipe", E, ("if", YES, S, NONE))), ([True, True],))
        only_dict = ("if", ("is", "dict"), S, FAIL)
        self.check(("pipe", only_dict, ("pipe", E, TWO)), ("pipe", only_dict, ("both", E, E)), ({"a": None, "aa": None},))

    def test_by_a_key_between_two_named_ones(self):
        every, named = ("pipe", E, ("if", ("is", "null"), S, NONE)), ("try", ("pipe", A, ("if", ("is", "null"), S, NONE)))
        only_dict = ("if", ("is", "dict"), S, NONE)
        self.check(("pipe", only_dict, every), ("pipe", only_dict, named), ({"aa": None},))
        # Between a and c stands the first key that comes ahead of c and behind a.
        self.check(("both", A, ("both", C, E)), ("both", A, ("both", C, ("both", A, C))), ({"a": None, "aa": None, "c": None},))
        self.check(("both", ("field", "aa"), E), ("both", ("field", "aa"), ("field", "aa")), ({"a": None, "aa": None},))
        self.check(("both", ("field", "zzzzzzzz"), E), ("both", ("field", "zzzzzzzz"), ("field", "zzzzzzzz")),
                   ({"a": None, "zzzzzzzz": None},))
        tight = ("both", ("field", "a"), ("field", "aa"))
        self.check(("both", tight, E), ("both", tight, tight), ({"a": None, "aa": None, "aaa": None},))

    def test_by_an_unnamed_number_or_text(self):
        zero = ("if", ("is", "number"), ("if", ("equal", 0), S, NONE), NONE)
        self.check(zero, ("if", ("is", "number"), S, NONE), (1,))
        f = ("if", any_of(("equal", 0), ("equal", 1), ("not", ("is", "number"))), S, NONE)
        self.check(f, S, (-1,))
        f = ("if", any_of(("equal", ""), ("not", ("is", "text"))), S, NONE)
        self.check(f, S, (" ",))
        f = ("if", any_of(("equal", ""), ("equal", " "), ("not", ("is", "text"))), S, NONE)
        self.check(f, S, ("!",))
        self.check(("if", ("equal", "b"), S, NONE), NONE, ("b",))
        self.check(("if", ("equal", "b"), S, NONE), ("if", ("is", "text"), S, NONE), ("",))
        self.check(("if", ("equal", -5), S, NONE), NONE, (-5,))

    def test_truths_and_numbers_are_told_apart(self):
        self.check(("if", ("equal", 1), S, NONE), ("if", ("equal", True), S, NONE), (True,))
        self.check(("if", ("equal", 0), S, NONE), ("if", ("equal", False), S, NONE), (False,))
        self.check(("if", ("equal", True), S, NONE), ("if", YES, S, NONE), None)
        self.check(("if", ("equal", False), S, NONE), ("if", NO, S, NONE), None)
        self.check(("if", ("equal", 1), S, NONE), ("if", ("and", ("equal", 1), ("not", YES)), S, NONE), None)
        self.check(("if", any_of(("equal", 1), YES), S, NONE), ("if", YES, S, NONE), (1,))

    def test_by_an_element_behind_the_named_indexes(self):
        self.check(("pipe", I1, NONE), ("pipe", ("both", I1, E), NONE), None)
        behind = ("both", ("pipe", I1, NONE), E)
        self.check(behind, ("both", ("pipe", I1, NONE), ("both", I0, I1)), ([None, None, None],))
        self.check(("if", at(I1, YES), E, NONE), ("if", at(I1, YES), ("both", I0, I1), NONE), ([None, True, None],))

    def test_by_an_element_within_an_element(self):
        inner = ("pipe", E, ("if", ("is", "list"), E, NONE))
        self.check(inner, ("pipe", E, NONE), ([[None]],))
        self.check(("pipe", inner, TWO), ("both", inner, inner), ([[None, None]],))
        deep = ("pipe", ("pipe", E, E), E)
        self.check(deep, ("pipe", ("pipe", E, E), ("pipe", E, S)), None)
        self.check(deep, ("pipe", E, ("pipe", E, NONE)), ([[None]],))

    def test_alike(self):
        for f, g in (
            (("pipe", A, ("pipe", C, E)), ("pipe", ("pipe", A, C), E)), (("both", S, NONE), S), (("pipe", S, E), E),
            (("if", YES, S, S), S), (("if", ("not", YES), A, C), ("if", YES, C, A)), (("try", S), S),
            (("try", ("pipe", A, FAIL)), ("try", FAIL)), (("other", A, FAIL), A), (("other", NONE, E), E),
            (("if", ("or", YES, NO), A, NONE), ("if", YES, A, ("if", NO, A, NONE))),
            (("if", at(A, ("or", YES, ("not", YES))), A, NONE), ("try", A)),
            (("if", ("is", "list"), A, C), ("if", ("is", "list"), FAIL, C)),
            (("pipe", E, ("if", YES, S, S)), E), (("both", E, FAIL), ("pipe", S, ("both", E, FAIL))),
        ):
            self.check(f, g, None)

    def test_the_first_of_all_data(self):
        for seed in range(160):
            maker = Maker(seed, ("a",), everys=seed % 4 < 3, indexes=(0,), leaves=(1,) if seed % 4 == 3 else ())
            f, g = maker.chooser(maker.random.randint(1, 8)), maker.chooser(maker.random.randint(1, 8))
            for function, shows in ((parting, told_parting), (places_within, told_places)):
                found = function(f, g)
                if found is None or parts_of(found[0]) <= 4:
                    self.assertEqual(repr(found), repr(first_of_all(f, g, shows, 4)), (function, f, g))
                else:
                    self.assertTrue(shows(f, g, found[0]))

    def test_the_first_of_all_data_with_other_names(self):
        for seed in range(60):
            maker = Maker(seed, ("b", "c"), leaves=("", 0), everys=False, indexes=())
            f = maker.chooser(maker.random.randint(3, 9))
            for g in (maker.chooser(maker.random.randint(3, 9)), thinned(f)):
                self.assertEqual(repr(parting(f, g)), repr(first_of_all(f, g, told_parting, 3)), (f, g))

    def test_what_was_returned_may_be_changed(self):
        found = parting(*PAIRS[0])
        found[0][0]["a"] = 5
        found[0].append(1)
        self.assertEqual(parting(*PAIRS[0]), ([{"a": None}, None],))
        found = places_within(("pipe", E, E), NONE)
        found[0].clear()
        self.assertEqual(places_within(("pipe", E, E), NONE), ([[None]],))


class PlacesTest(unittest.TestCase):
    def check(self, f, g, told):
        self.assertEqual(repr(places_within(f, g)), repr(told))

    def test_places(self):
        self.check(A, E, None)
        self.check(E, A, ({"a": None, "aa": None},))
        self.check(("both", A, A), A, None)
        self.check(B, NONE, ({"a": None},))
        self.check(NONE, B, None)
        self.check(S, E, ([],))
        self.check(("pipe", E, E), ("pipe", ("both", E, E), E), None)
        self.check(E, ("pipe", E, ("if", YES, NONE, S)), ([True],))
        self.check(("both", I0, I1), E, None)
        self.check(E, ("both", I0, I1), ([None, None, None],))

    def test_where_one_of_both_fails(self):
        self.check(S, FAIL, None)
        self.check(FAIL, NONE, None)
        self.check(("both", S, FAIL), NONE, None)
        self.check(A, I0, None)
        self.check(S, ("pipe", A, NONE), ({"a": None},))
        self.check(("both", S, ("pipe", I0, NONE)), ("pipe", A, NONE), None)
        self.check(("both", B, S), ("both", S, ("pipe", A, NONE)), ({"a": None},))


class PaperTest(unittest.TestCase):
    def test_papers_of_pairs_that_are_alike(self):
        for seed in range(80):
            maker = Maker(seed, everys=seed % 2, leaves=() if seed % 2 else (1,))
            f = maker.chooser(maker.random.randint(1, 9))
            for g in (f, thinned(f), ("pipe", f, S), maker.chooser(5)):
                paper = likeness(f, g)
                self.assertIs(paper is None, not are_alike(f, g))
                if paper is not None:
                    self.assertIs(is_likeness(f, g, paper), True)
                    self.assertTrue(self.told_right(f, g, ("hole",), paper))
        for f, g in PAIRS:
            self.assertIsNone(likeness(f, g))

    def told_right(self, f, g, sketch, paper):
        """Whether a paper is right, told by the document."""
        if paper[0] == "row":
            return sketched(f, g, sketch) == ("rows", paper[1:], paper[1:])
        _, place, question, papers = paper
        told = answers(f, g, sketch, place, question)
        return len(told) == len(papers) and all(self.told_right(f, g, *pair) for pair in zip(told, papers))

    def test_a_paper(self):
        row, none = ("row", (("a",),), True), ("row", (), False)
        paper = ("ask", (), ("sort",), (none,) * 6 + (("ask", (), ("key", "a"), (none, row)),))
        f, g = ("both", A, NONE), A
        self.assertTrue(is_likeness(f, g, paper))
        self.assertFalse(is_likeness(f, ("try", A), paper))
        self.assertFalse(is_likeness(f, C, paper))
        # More questions than needed, also below them.
        for question, many in ((("gap", 0), 1), (("gap", 1), 3)):
            wide = ("ask", (), question, (row,) * many)
            longer = paper[:3] + ((none,) * 6 + (("ask", (), ("key", "a"), (none, wide)),),)
            self.assertTrue(is_likeness(f, g, longer))
        asked = ("ask", ("a",), ("sort",), (row,) * 7)
        self.assertTrue(is_likeness(f, g, paper[:3] + ((none,) * 6 + (("ask", (), ("key", "a"), (none, asked)),),)))
        asked = ("ask", (), ("more",), (none, none))
        self.assertTrue(is_likeness(f, g, paper[:3] + ((none,) * 5 + (asked, paper[3][6]),)))
        asked = ("ask", (), ("value",), (none,))
        self.assertTrue(is_likeness(f, g, paper[:3] + ((none,) * 3 + (asked,) * 2 + paper[3][5:],)))
        self.assertTrue(is_likeness(S, S, ("row", ((),), True)))
        self.assertTrue(is_likeness(S, S, ("ask", (), ("sort",), (("row", ((),), True),) * 7)))

    def test_papers_with_one_thing_wrong(self):
        row, none = ("row", (("a",),), True), ("row", (), False)
        asked = ("ask", (), ("key", "a"), (none, row))
        right = ("ask", (), ("sort",), (none,) * 6 + (asked,))
        self.assertTrue(is_likeness(A, A, right))
        wrong = [
            none, row, asked, ("ask",) + right[2:], right + (1,), list(right), right[:3] + (list(right[3]),), right[:3],
            ("Ask",) + right[1:], ("row",) + right[1:], right[:1] + ([],) + right[2:], right[:1] + (("a",),) + right[2:],
            right[:2] + (["sort"],) + right[3:], right[:2] + (("sort", 1),) + right[3:], right[:2] + ("sort",) + right[3:],
            right[:2] + (("value",),) + right[3:], right[:3] + (right[3][1:],), right[:3] + (right[3] + (none,),),
            right[:3] + ((asked,) * 7,), right[:3] + ((none,) * 7,), right[:3] + (right[3][::-1],), right[:3] + ((),),
        ]
        for inner in (
            ("ask", (), ("key", "a"), (row, none)), ("ask", (), ("key", "a"), (none, none)), ("ask", (), ("key", "a"), (none,)),
            ("ask", (), ("key", "a"), (none, row, row)), ("ask", (), ("key", "b"), (none, row)), ("ask", (), ("gap", 0), (row,)),
            ("ask", (), ("key", ["a"]), (none, row)), ("ask", 0, ("key", "a"), (none, row)), row, none,
            ("ask", (), ("key", "a"), (none, ("row", [("a",)], True))), ("ask", (), ("key", "a"), (none, ("row", (["a"],), True))),
            ("ask", (), ("key", "a"), (none, ("row", (("a",),), 1))), ("ask", (), ("key", "a"), (none, ("row", (("a",),), False))),
            ("ask", (), ("key", "a"), (none, ("row", (), True))), ("ask", (), ("key", "a"), (none, ("row", ("a",), True))),
            ("ask", (), ("key", "a"), (none, ("row", (("a",), ("a",)), True))), ("ask", (), ("key", "a"), (none, row + (1,))),
            ("ask", (), ("key", "a"), (("row", (), 0), row)), ("ask", (), ("key", "a"), (none, list(row))), None, (), (row,),
            ("ask", (), ("key", "a"), (none, ("ask", (), ("key", "a"), (none, row)))),
        ):
            wrong.append(right[:3] + ((none,) * 6 + (inner,),))
        for value in wrong:
            self.assertIs(is_likeness(A, A, value), False, value)

    def test_indexes_and_truths(self):
        row, none = ("row", ((1,),), True), ("row", (), False)

        def paper(place, inner):
            return ("ask", (), ("sort",), (none,) * 5 + (
                ("ask", place, ("more",), (none, ("ask", (), ("more",), (none, inner)))), none))
        self.assertIs(is_likeness(I1, I1, paper((), row)), True)
        self.assertIs(is_likeness(I1, I1, paper((), ("row", ((True,),), True))), False)
        self.assertIs(is_likeness(I1, I1, paper((), ("row", ((1,),), 1))), False)
        self.assertIs(is_likeness(I1, I1, paper((0,), row)), False)
        self.assertIs(is_likeness(S, E, ("row", ((),), True)), False)
        whole = likeness(("pipe", E, A), ("pipe", E, A))
        self.assertIn("('gap', 1)", str(whole))
        self.assertIs(is_likeness(("pipe", E, A), ("pipe", E, A), self.with_true(whole)), False)

    def with_true(self, paper):
        """The paper with True in the place of each 1 in a question or a place."""
        if paper[0] == "row":
            return paper
        told = [tuple(True if type(step) is int and step == 1 else step for step in part) for part in paper[1:3]]
        return ("ask", *told, tuple(self.with_true(inner) for inner in paper[3]))

    def test_any_value(self):
        values = any_values() + [nested(150, lambda inner: ("ask", (), ("sort",), (inner,) * 7)),
                                 nested(75, lambda inner: ("ask", (), ("sort",), (inner,)), ("row", ((),), True)),
                                 nested(149, lambda inner: ("row", (inner,), True)), ("row", nested(149), True),
                                 ("ask", (), nested(148, lambda inner: (inner,)), ()), ("ask", nested(140), ("sort",), ())]
        for value in values:
            for f in (S, E, NONE):
                self.assertIs(is_likeness(f, f, value), False)

    def test_a_deep_paper(self):
        f = nested(40, lambda inner: ("pipe", ("item", 0), inner), ("item", 0))
        paper = likeness(f, f)
        self.assertTrue(is_likeness(f, f, paper))
        f = nested(3, lambda inner: ("both", inner, ("item", 99)), ("item", 99))
        self.assertTrue(is_likeness(f, f, likeness(f, f)))


class NeedlessTest(unittest.TestCase):
    def test_spots_in_reading_order(self):
        self.assertEqual(needless(S), ())
        self.assertEqual(needless(NONE), ())
        self.assertEqual(needless(FAIL), ())
        self.assertEqual(needless(A), ())
        self.assertEqual(needless(("both", A, ("pipe", S, NONE))), ((1,),))
        self.assertEqual(needless(("pipe", A, NONE)), ())
        self.assertEqual(needless(("pipe", NONE, A)), ((), (1,)))
        self.assertEqual(needless(("pipe", S, S)), ((),))
        self.assertEqual(needless(("both", ("pipe", NONE, A), ("pipe", ("pipe", S, S), C))), ((0,), (0, 1), (1, 0)))
        self.assertEqual(needless(("if", YES, ("if", YES, S, A), ("if", NO, S, NONE))), ((1,), (1, 2)))
        self.assertEqual(needless(("if", at(("pipe", S, S), YES), A, C)), ((0, 0),))
        self.assertEqual(needless(("if", at(FAIL, YES), A, ("if", YES, ("none",), C))), ((0, 0), (1,)))
        self.assertEqual(needless(("try", FAIL)), ((), (0,)))
        self.assertEqual(needless(("other", S, E)), ((), (1,)))
        self.assertIs(type(needless(S)), tuple)

    def test_each_spot_is_tried(self):
        for seed in range(60):
            maker = Maker(seed, ("a",), everys=seed % 2, indexes=(0,), leaves=() if seed % 2 else (0,))
            f = maker.chooser(maker.random.randint(3, 9))
            told = []
            for spot in spots(f):
                if part_at_spot(f, spot)[0] not in ("same", "none", "is", "equal", "at", "and", "or", "not"):
                    if any(first_of_all(f, with_spot(f, spot, part), told_parting, 4) is None for part in (S, NONE)):
                        told.append(spot)
            self.assertEqual(needless(f), tuple(told), f)

    def test_thinned(self):
        self.assertEqual(thinned(A), A)
        self.assertEqual(thinned(("pipe", S, S)), S)
        self.assertEqual(thinned(("pipe", NONE, A)), NONE)
        self.assertEqual(thinned(("both", A, ("pipe", S, NONE))), ("both", A, NONE))
        for seed in range(100):
            maker = Maker(seed, everys=seed % 2, leaves=() if seed % 2 else (0,))
            f = maker.chooser(maker.random.randint(1, 10))
            thin = thinned(f)
            self.assertTrue(is_chooser(thin))
            self.assertTrue(are_alike(f, thin))
            self.assertEqual(needless(thin), ())


class BoundsTest(unittest.TestCase):
    """Choosers of up to 20 spots, at the bounds of 49."""

    OF_20_SPOTS = ("if", any_of(at(A, ("is", "list")), at(("field", "b"), ("equal", 1)), at(C, ("is", "text")),
                                at(A, at(A, YES))), S, NONE)

    def test_each_answer_comes_soon(self):
        turned = ("if", any_of(at(A, at(A, YES)), at(C, ("is", "text")), at(("field", "b"), ("equal", 1)),
                               at(A, ("is", "list"))), S, NONE)
        self.assertEqual(len(list(spots(self.OF_20_SPOTS))), 20)
        sorts = ("if", ("is", "list"), S, ("if", ("is", "dict"), S, NONE))
        item = ("both", I0, I1)
        for f, g in (
            (self.OF_20_SPOTS, turned),
            (("if", any_of(at(A, at(("field", "b"), ("is", "list"))), at(("field", "b"), at(A, ("equal", 1))),
                           at(C, at(C, ("is", "text")))), S, NONE),) * 2,
            (("pipe", E, ("pipe", E, sorts)), ("pipe", ("pipe", E, E), sorts)),
            (("both", ("pipe", E, sorts), ("pipe", S, E)), ("both", ("pipe", E, sorts), E)),
            (("both", ("pipe", E, B), ("pipe", A, ("other", NONE, E))), ("both", ("pipe", S, ("pipe", E, B)), ("pipe", A, E))),
            (("both", ("pipe", E, item), ("pipe", I1, E)), ("both", ("pipe", E, item), ("pipe", I1, ("pipe", E, S)))),
            (("pipe", ("both", A, C), ("both", ("try", A), ("try", C))),) * 2,
        ):
            begin = time.process_time()
            self.assertTrue(are_alike(f, g))
            self.assertIsNone(parting(g, f))
            self.assertIsNone(places_within(f, g))
            self.assertTrue(is_likeness(f, g, likeness(f, g)))
            needless(f)
            self.assertTrue(are_alike(thinned(g), f))
            self.assertLess(time.process_time() - begin, 10, (f, g))

    def test_choosers_at_random(self):
        begin = time.process_time()
        for seed in range(30):
            maker = Maker(seed, ("a", "b", "c"), leaves=(1, ""), everys=False)
            f, g = maker.chooser(20), maker.chooser(20)
            found = parting(f, g)
            self.assertTrue(found is None or told_parting(f, g, found[0]))
            self.assertEqual(repr(found), repr(parting(thinned(f), g)))
        self.assertLess(time.process_time() - begin, 20)

    def test_data_that_are_told_are_shown_to_part(self):
        for f, g in PAIRS:
            datum, = parting(f, g)
            self.assertTrue(told_parting(f, g, datum))
            self.assertTrue(alike(datum, parting(g, f)[0]))


if __name__ == "__main__":
    unittest.main()

"""Promises 54 to 56: patterns, which changes may be exchanged, and the least data where they may not."""

import functools
import inspect
import itertools
import time
import unittest

from sieveways import bounds as module
from sieveways.bounds import apart, covers, exchanged, kept, regained, single, touched
from sieveways.data import alike, begins, order_key, part_at, parts_of, with_part
from sieveways.errors import Fails, NoPart, NotChooser
from sieveways.likeness import parting, row_of
from sieveways.names import Names
from sieveways.deeds import deeds
from sieveways.runs import tell
from tests.brute import Maker, all_data, compositions, data_of
from tests.test_filters import tree
from tests.values import shown

S = ("same",)
A, B, C = ("field", "a"), ("field", "b"), ("field", "c")
E = ("every",)
NONE = ("none",)
FAIL = ("fail",)
YES = ("is", "yes")
I0, I1, I2 = ("item", 0), ("item", 1), ("item", 2)
LIST = ("list", S)
FUNCTIONS_OF_TWO = (apart, kept, exchanged)
FUNCTIONS_OF_ONE = (single, regained, touched)


def pipe(*terms):
    return terms[0] if len(terms) == 1 else ("pipe", terms[0], pipe(*terms[1:]))


def both(*terms):
    return terms[0] if len(terms) == 1 else ("both", terms[0], both(*terms[1:]))


def at(walk, test):
    return ("at", walk, test)


def wide(terms):
    return terms[0] if len(terms) == 1 else ("both", wide(terms[:len(terms) // 2]), wide(terms[len(terms) // 2:]))


NAMES = ["".join(pair) for pair in itertools.product("abcdefghij", repeat=2)]


class InterfaceTest(unittest.TestCase):
    def test_names_of_arguments(self):
        told = {"exchanged": ["f", "g"], "covers": ["one", "other"], "touched": ["f"], "apart": ["f", "g"], "single": ["f"],
                "kept": ["f", "g"], "regained": ["f"]}
        for name, arguments in told.items():
            function = getattr(module, name)
            self.assertEqual(list(inspect.signature(function).parameters), arguments)
            self.assertEqual(function.__module__, "sieveways.bounds")
            function(**{argument: () if name == "covers" else S for argument in arguments})

    def test_no_chooser(self):
        for wrong, spot in ((LIST, ()), (("pipe", S, LIST), (1,)), (("both", ("if", YES, S, LIST), LIST), (0, 2)), (("first", S), ())):
            for call in FUNCTIONS_OF_TWO:
                for f, g in ((wrong, S), (S, wrong), (wrong, ("pipe", ("pipe", ("pipe", LIST, S), S), S))):
                    with self.assertRaises(NotChooser) as caught:
                        call(f, g)
                    self.assertEqual(caught.exception.spot, spot)
            for call in FUNCTIONS_OF_ONE:
                with self.assertRaises(NotChooser) as caught:
                    call(wrong)
                self.assertEqual(caught.exception.spot, spot)


class CoversTest(unittest.TestCase):
    def test_covers(self):
        for one, other, told in (
            ((), (), True), ((), (A,), True), ((A,), (), False), ((A,), (A,), True), ((A,), (B,), False), ((E,), (A,), True),
            ((E,), (I0,), True), ((A,), (E,), False), ((I0,), (E,), False), ((I0,), (I0, A), True), ((I0,), (I1,), False),
            ((E, A), (B, A), True), ((E, A), (B, E), False), ((E, E), (A,), False), ((A, E), (A, I2, B), True), ((E,), (E,), True),
            ((A, B), (A, B, C), True), ((A, B), (A, C, B), False), ((), (E, E), True), ((I1, E), (I1, A), True),
        ):
            self.assertIs(covers(one, other), told, (one, other))

    def test_by_the_places_that_fit(self):
        steps = [E, A, B, I0, I1]
        patterns = [()] + [(one,) for one in steps] + list(itertools.product(steps, repeat=2))
        keys = ["a", "b", "c", 0, 1, 2]
        places = [()] + [(key,) for key in keys] + list(itertools.product(keys, repeat=2))
        fits = lambda place, pattern: len(place) == len(pattern) and all(
            step == E or step[1] == key and (step[0] == "item") == isinstance(key, int) for key, step in zip(place, pattern))
        for one in patterns:
            for other in patterns:
                told = all(any(begins(first, place) and fits(first, one) for first in places) for place in places if fits(place, other))
                self.assertIs(covers(one, other), told, (one, other))


class TouchedTest(unittest.TestCase):
    def check(self, f, *told):
        self.assertEqual(touched(f), told, f)

    def test_the_example(self):
        self.check(("both", E, ("pipe", A, E)), (E,))

    def test_each_form(self):
        self.check(S, ())
        self.check(A, (A,))
        self.check(I2, (I2,))
        self.check(E, (E,))
        self.check(NONE)
        self.check(FAIL)
        self.check(("try", pipe(A, B)), (A, B))
        self.check(("try", FAIL))
        self.check(both(A, B), (A,), (B,))
        self.check(("if", YES, A, B), (B,))
        self.check(("if", at(A, YES), A, B), (A,), (B,))
        # A place of field a fits the pattern of the every, too.
        self.check(("other", A, E), (E,))
        self.check(("other", ("if", ("is", "list"), I0, NONE), A), (A,), (I0,))
        self.check(pipe(E, both(A, I1)), (E, A))
        self.check(pipe(E, both(("try", A), ("try", I1))), (E, A), (E, I1))

    def test_order(self):
        self.check(both(("try", pipe(A, B)), ("try", I1), ("try", C), ("try", B), ("try", I0)), (B,), (C,), (I0,), (I1,), (A, B))
        self.check(both(pipe(("try", C), ("try", A)), ("try", I1)), (I1,), (C, A))
        self.check(both(pipe(E, ("try", B)), pipe(("try", A), ("try", A)), pipe(("try", I0), ("try", A))), (E, B), (A, A), (I0, A))

    def test_covered_ones_are_left_out(self):
        self.check(both(A, pipe(A, B)), (A,))
        self.check(both(S, A), ())
        self.check(both(pipe(A, B), pipe(E, E)), (E, E))
        self.check(both(pipe(A, E), pipe(E, B)), (E, B), (A, E))
        # What covers it but has no place for itself does not count.
        self.check(both(pipe(A, B), pipe(A, FAIL)), (A, B))
        self.check(both(pipe(A, B), ("if", ("and", YES, ("is", "no")), A, NONE)), (A, B))

    def test_patterns_that_no_datum_has_a_place_for(self):
        self.check(("if", ("and", YES, ("is", "no")), A, B), (B,))
        self.check(("if", YES, E, NONE))
        self.check(("if", ("is", "list"), A, I0))
        self.check(("if", ("is", "list"), pipe(E, A), pipe(E, B)), (E, A), (E, B))
        self.check(both(pipe(I0, NONE), A))
        self.check(both(I0, A), (I0,))
        self.check(both(A, I0), (A,))
        self.check(both(pipe(A, ("if", ("is", "list"), S, FAIL)), pipe(A, B)), (A,))
        self.check(both(pipe(A, ("if", ("is", "list"), NONE, FAIL)), pipe(A, both(I0, B))), (A, I0))
        self.check(pipe(A, ("if", ("equal", 1), both(S, E), FAIL)), (A,))
        self.check(("if", at(A, ("is", "list")), pipe(A, B), pipe(A, I0)))
        self.check(("if", at(A, ("is", "list")), pipe(A, I0), pipe(A, I0)), (A, I0))
        self.check(("other", A, B), (A,))
        self.check(("other", S, B), ())
        self.check(both(FAIL, A))
        self.check(both(A, FAIL), (A,))
        self.check(pipe(E, ("if", ("and", ("is", "list"), ("is", "dict")), S, NONE)))
        self.check(pipe(("try", FAIL), A))

    def test_a_place_may_fit_the_pattern_of_another_part(self):
        self.check(("if", ("is", "list"), I1, E), (E,))
        self.check(("if", ("is", "dict"), ("if", ("not", ("is", "dict")), A, E), FAIL), (E,))

    def test_what_must_be_so_for_the_outcomes_ahead(self):
        # The key b is touched only if a is there and is a list, and c is not.
        f = both(pipe(A, ("if", ("is", "list"), NONE, FAIL)), ("if", at(C, ("or", YES, ("not", YES))), FAIL, B))
        self.check(f, (B,))
        self.check(both(pipe(E, ("if", ("is", "list"), NONE, FAIL)), pipe(A, ("if", ("is", "dict"), S, NONE))))
        self.check(both(pipe(E, ("if", ("is", "list"), NONE, FAIL)), pipe(A, ("if", ("is", "list"), S, NONE))), (A,))
        self.check(both(pipe(I1, NONE), pipe(E, ("if", YES, S, NONE))), (E,))
        self.check(both(("if", at(I1, ("or", YES, ("not", YES))), FAIL, NONE), E), (E,))

    def test_many_patterns(self):
        begin = time.process_time()
        f = pipe(*[both(A, B)] * 7)
        told = touched(f)
        self.assertEqual(told, tuple(sorted(itertools.product((A, B), repeat=7))))
        self.assertEqual(len(touched(wide([("field", name) for name in NAMES]))), 100)
        choices = [("if", at(("field", name), ("is", "list")), ("field", name), NONE) for name in NAMES[:24]]
        self.assertEqual(touched(wide(choices)), tuple((("field", name),) for name in NAMES[:24]))
        choices = [("if", at(("field", name), ("is", "list")), pipe(("field", name), E), NONE) for name in NAMES[:20]]
        self.assertEqual(len(touched(wide([*choices, ("if", ("and", YES, ("is", "no")), A, NONE)]))), 20)
        choices = [("if", at(("field", name), ("is", "list")), pipe(("field", name), E), ("try", ("field", name))) for name in NAMES[:16]]
        self.assertEqual(touched(wide(choices)), tuple((("field", name),) for name in NAMES[:16]))
        self.assertLess(time.process_time() - begin, 20)

    def test_what_does_not_matter_is_not_tried_in_all_its_forms(self):
        begin = time.process_time()
        choices = wide([("if", at(("field", name), ("is", "list")), ("field", name), NONE) for name in NAMES[:24]])
        only_list = pipe(A, ("if", ("is", "list"), NONE, FAIL))
        told = tuple((("field", name),) for name in NAMES[:24])
        self.check(both(choices, only_list, pipe(A, B)), *told)
        self.check(both(choices, only_list, pipe(A, both(I0, B))), *told, (A, I0))
        self.check(both(pipe(E, E, E, both(I2, NONE)), both(B, ("if", ("is", "dict"), NONE, A))), (B,), (E, E, E, I2))
        self.check(both(pipe(E, E, I2, ("try", A)), I0, pipe(C, B)), (I0,), (E, E, I2, A))
        self.assertLess(time.process_time() - begin, 10)

    def test_places_that_are_too_deep_or_too_great_for_a_datum(self):
        self.assertEqual(touched(tree("pipe", 59, A)), ((A,) * 59,))
        self.assertEqual(touched(tree("pipe", 60, A)), ())
        self.assertEqual(touched(tree("pipe", 9, ("item", 99))), ((("item", 99),) * 9,))
        self.assertEqual(touched(tree("pipe", 10, ("item", 99))), ())
        self.assertIsNone(parting(tree("pipe", 60, A), FAIL))
        self.assertIsNotNone(parting(tree("pipe", 59, A), FAIL))

    def test_all_data_of_few_parts(self):
        for seed in range(120):
            maker = Maker(seed, ("a",), indexes=(0,), leaves=() if seed % 3 else (0,), everys=seed % 3)
            f = maker.chooser(maker.random.randint(1, 7))
            leaves, keys = leaves_and_keys(f, f)
            fitted = set()
            for datum in all_data(4, leaves, keys):
                for place in row_of(f, datum)[0]:
                    fitted |= {pattern for pattern in patterns(f) if len(pattern) == len(place) and all(
                        step == E or step[1] == key for step, key in zip(pattern, place))}
            left = [one for one in fitted if not any(other != one and covers(other, one) for other in fitted)]
            if all(len(pattern) < 4 for pattern in patterns(f)):
                self.check(f, *sorted(left, key=lambda pattern: (len(pattern), pattern)))


def patterns(f):
    """All patterns of a chooser, told by the document."""
    word = f[0]
    if word in ("field", "item", "every"):
        return {(f,)}
    if word == "pipe":
        return {one + other for one in patterns(f[1]) for other in patterns(f[2])}
    if word == "try":
        return patterns(f[1])
    return {()} if word == "same" else patterns(f[-2]) | patterns(f[-1]) if word in ("both", "if", "other") else set()


def leaves_and_keys(f, g, others=1):
    names = Names((f, g))
    keys = set(names.fields) | {key for gap in names.gaps for key in gap}
    return (None, False, True, *names.numbers_with_others(others), *names.texts_with_others(others)), tuple(sorted(keys))


def meets(f, g, datum):
    (places, ends), (others, other_ends) = row_of(f, datum), row_of(g, datum)
    return ends and other_ends and any(begins(one, other) or begins(other, one) for one in places for other in others)


def meets_itself(f, datum):
    places, ends = row_of(f, datum)
    return ends and any(begins(one, other) or begins(other, one) for one, other in itertools.combinations(places, 2))


def first_of_all(leaves, keys, shows, most):
    for datum in all_data(most, leaves, keys):
        if shows(datum):
            return (datum,)
    return None


@functools.lru_cache(maxsize=None)
def rows_of(many, total, leaves, keys):
    """All rows of so many data with so many parts in all, in their order; not to be changed."""
    rows = []
    for sizes in compositions(total, many):
        rows.extend(itertools.product(*[data_of(size, leaves, keys) for size in sizes]))
    return sorted((list(row) for row in rows), key=order_key)


def put(datum, places, row):
    """The datum behind a row of data, in a list; an empty list if a place is lost."""
    for place, part in zip(places, row):
        try:
            datum = with_part(datum, place, part)
        except NoPart:
            return []
    return [datum]


def breaks(f, g, datum, row):
    """Whether g has another row behind the row of data for f."""
    return any(row_of(g, datum) != row_of(g, behind) for behind in put(datum, row_of(f, datum)[0], row))


def loses(f, datum, row):
    """Whether f does not end with just these outcomes behind the row of data for it."""
    for behind in put(datum, row_of(f, datum)[0], row):
        places, ends = row_of(f, behind)
        return not ends or len(places) != len(row) or not all(alike(part_at(behind, place), part) for place, part in zip(places, row))
    return False


def first_row_of_all(f, leaves, keys, shows, most, further):
    """The first datum of few parts, and for it the first row of few parts, that show something."""
    for datum in all_data(most, leaves, keys):
        places, ends = row_of(f, datum)
        if ends and places:
            for total in range(len(places), len(places) + further + 1):
                for row in rows_of(len(places), total, leaves, keys):
                    if shows(datum, row):
                        return datum, tuple(row)
    return None


class ApartTest(unittest.TestCase):
    def check(self, f, g, told):
        self.assertEqual(shown(apart(f, g)), shown(told), (f, g))
        self.assertEqual(shown(apart(g, f)), shown(told), (g, f))

    def test_the_example(self):
        self.check(pipe(A, B), E, ({"a": {"b": None}},))

    def test_pairs(self):
        self.check(A, B, None)
        self.check(A, A, ({"a": None},))
        self.check(S, NONE, None)
        self.check(S, A, ({"a": None},))
        self.check(S, FAIL, None)
        self.check(A, I0, None)
        self.check(A, ("try", I0), None)
        self.check(I0, E, ([None],))
        self.check(I1, E, ([None, None],))
        self.check(pipe(A, B), pipe(A, C), None)
        self.check(pipe(A, B), A, ({"a": {"b": None}},))
        self.check(("if", YES, S, NONE), ("if", YES, NONE, S), None)
        self.check(pipe(E, ("if", YES, S, NONE)), pipe(E, ("if", YES, NONE, S)), None)
        self.check(pipe(E, ("if", ("equal", 1), S, NONE)), pipe(E, ("if", ("is", "number"), S, NONE)), ([1],))
        self.check(both(A, FAIL), A, None)

    def test_single(self):
        for f, told in ((S, None), (A, None), (E, None), (both(A, B), None), (both(A, A), ({"a": None},)), (both(S, S), (None,)),
                        (both(A, pipe(A, B)), ({"a": {"b": None}},)), (both(pipe(A, B), A), ({"a": {"b": None}},)), (both(S, FAIL), None),
                        (pipe(E, both(S, S)), ([None],)), (both(E, I1), ([None, None],)), (both(S, S, FAIL), None),
                        (both(E, pipe(E, E)), ([[None]],)), (both(("try", A), E), ({"a": None},)), (pipe(both(A, B), E), None)):
            self.assertEqual(shown(single(f)), shown(told), f)

    def test_the_first_of_all_data(self):
        for seed in range(90):
            maker = Maker(seed, ("a",), indexes=(0,), leaves=() if seed % 3 else (0,), everys=seed % 3)
            f, g = maker.chooser(maker.random.randint(1, 8)), maker.chooser(maker.random.randint(1, 8))
            leaves, keys = leaves_and_keys(f, g)
            for found, shows in ((apart(f, g), lambda datum: meets(f, g, datum)), (single(f), lambda datum: meets_itself(f, datum))):
                if found is None or parts_of(found[0]) <= 4:
                    self.assertEqual(shown(found), shown(first_of_all(leaves, keys, shows, 4)), (f, g))
                else:
                    self.assertTrue(shows(found[0]))


class KeptTest(unittest.TestCase):
    def check(self, f, g, told):
        self.assertEqual(shown(kept(f, g)), shown(told), (f, g))
        if told is not None:
            self.assertTrue(breaks(f, g, *told))

    def test_the_example(self):
        self.check(A, ("if", at(A, ("equal", 0)), B, NONE), ({"a": None}, (0,)))
        self.check(A, ("if", at(A, ("equal", 0)), B, S), ({"a": None}, (0,)))

    def test_pairs(self):
        self.check(A, B, None)
        self.check(A, A, None)
        self.check(S, S, None)
        self.check(S, NONE, None)
        self.check(S, A, (None, ({"a": None},)))
        self.check(A, pipe(A, B), ({"a": None}, ({"b": None},)))
        self.check(NONE, A, None)
        self.check(FAIL, A, None)
        self.check(both(S, FAIL), A, None)
        self.check(E, E, None)
        self.check(E, pipe(E, E), ([None], ([],)))
        self.check(A, ("try", pipe(A, B)), ({"a": None}, ({"b": None},)))
        self.check(pipe(A, B), A, None)
        self.check(A, ("if", at(A, YES), B, B), None)
        self.check(A, ("if", at(A, YES), both(B, S), both(B, S)), None)
        self.check(both(A, A), ("if", at(A, YES), S, NONE), ({"a": None}, (None, True)))
        self.check(("if", YES, S, NONE), ("if", YES, S, NONE), (True, (None,)))
        self.check(pipe(E, ("if", YES, S, NONE)), pipe(E, ("if", YES, S, NONE)), ([True], (None,)))
        self.check(I0, ("if", at(I0, ("is", "number")), S, NONE), ([None], (0,)))

    def test_places_that_must_stay(self):
        # Behind the first exchange the second place must still be there.
        self.check(both(A, pipe(A, B)), ("if", at(A, ("is", "dict")), S, NONE), None)
        self.check(both(A, pipe(A, B)), pipe(A, C), ({"a": {"b": None}}, ({"b": None, "c": None}, None)))
        self.check(both(S, E), ("if", ("is", "list"), S, NONE), ([], ((None),)))
        self.check(both(pipe(A, B), A), pipe(A, B), ({"a": {"b": None}}, (None, None)))

    def test_regained(self):
        for f, told in (
            (both(I0, I0), ([None], (None, False))), (S, None), (A, None), (E, None), (both(A, B), None), (NONE, None), (FAIL, None),
            (both(S, S), (None, (None, False))), (both(A, pipe(A, B)), ({"a": {"b": None}}, ({"b": None}, False))),
            (both(pipe(A, B), A), ({"a": {"b": None}}, (None, None))), (("if", YES, S, NONE), (True, (None,))),
            (("if", YES, S, S), None), (pipe(E, ("if", YES, S, NONE)), ([True], (None,))), (both(A, ("if", at(A, YES), B, B)), None),
            (both(A, ("if", at(A, YES), B, C)), ({"a": None, "c": None}, (True, None))), (("if", ("is", "list"), S, FAIL), ([], (None,))),
            (pipe(E, both(S, S)), ([None], (None, False))), (both(S, FAIL), None),
        ):
            self.assertEqual(shown(regained(f)), shown(told), f)
            if told is not None:
                self.assertTrue(loses(f, *told))

    def test_two_unnamed_numbers(self):
        # Behind numbers alone both places are given back: then they must be unlike each other.
        only = ("if", ("is", "number"), both(S, S), ("if", ("is", "text"), both(S, S), FAIL))
        self.assertEqual(shown(regained(("if", ("is", "number"), S, FAIL))), shown((0, (None,))))
        self.assertEqual(shown(regained(only)), shown((0, (None, None))))
        same = both(I0, ("if", at(I0, ("is", "number")), I0, I0))
        self.assertEqual(shown(regained(same)), shown(([None], (None, False))))

    def test_the_first_of_all_data_and_rows(self):
        many = {True: 0, False: 0}
        for seed in range(48):
            maker = Maker(seed, ("a",), indexes=(0,), leaves=() if seed % 3 else (0,), everys=seed % 3)
            f, g = maker.chooser(maker.random.randint(1, 8)), maker.chooser(maker.random.randint(1, 8))
            for found, shows, others in ((kept(f, g), lambda datum, row: breaks(f, g, datum, row), 1),
                                         (regained(f), lambda datum, row: loses(f, datum, row), 2)):
                leaves, keys = leaves_and_keys(f, g, others)
                told = first_row_of_all(f, leaves, keys, shows, 3, 1)
                many[found is None] += 1
                if found is None:
                    self.assertIsNone(told, (f, g))
                    continue
                datum, row = found
                self.assertEqual((len(row), row_of(f, datum)[1]), (len(row_of(f, datum)[0]), True))
                self.assertTrue(shows(datum, list(row)), (f, g, found))
                if parts_of(datum) <= 3 and parts_of(list(row)) <= 2 + len(row):
                    self.assertEqual(shown(found), shown(told), (f, g))
                elif told is not None:
                    self.assertLessEqual((order_key(datum), order_key(list(row))), (order_key(told[0]), order_key(list(told[1]))))
        self.assertGreater(min(many.values()), 5)

    def test_what_was_returned_may_be_changed(self):
        datum, row = kept(S, pipe(A, E))
        self.assertEqual((datum, row), (None, ({"a": []},)))
        row[0]["a"].append(5)
        self.assertEqual(kept(S, pipe(A, E)), (None, ({"a": []},)))
        found = apart(A, E)
        found[0].clear()
        self.assertEqual(apart(A, E), ({"a": None},))


class ExchangedTest(unittest.TestCase):
    def check(self, f, g, told):
        self.assertEqual(shown(exchanged(f, g)), shown(told), (f, g))

    def test_the_example(self):
        self.check(I0, E, ("meet", [None]))

    def test_the_order_of_what_is_told(self):
        self.check(A, B, None)
        self.check(A, NONE, None)
        self.check(A, A, ("meet", {"a": None}))
        touching = ("if", at(A, ("equal", 0)), B, NONE)
        self.check(A, touching, ("first", {"a": None}, (0,)))
        self.check(touching, A, ("second", {"a": None}, (0,)))
        one, other = ("if", at(B, YES), A, NONE), ("if", at(A, YES), B, NONE)
        self.check(one, other, ("first", {"a": None, "b": True}, (True,)))
        self.check(other, one, ("first", {"a": True, "b": None}, (True,)))

    def test_both_orders_lead_to_the_same(self):
        many = 0
        filters = [("leaf", 1), ("list", S), S, ("dict", (("a", S),)), FAIL, ("if", ("is", "number"), ("leaf", True), ("leaf", 0))]
        for seed in range(400):
            maker = Maker(seed, ("a", "b"), indexes=(0,), leaves=(1,), everys=seed % 2)
            f, g = maker.chooser(maker.random.randint(1, 7)), maker.chooser(maker.random.randint(1, 7))
            if exchanged(f, g) is not None:
                continue
            u, v = maker.random.choice(filters), maker.random.choice(filters)
            for datum in (None, 1, [], [1, {"a": 1}], {"a": 1, "b": 2}, {"a": {"a": 1}, "b": [1]}, [[1], [0]], {"a": True}, [True, {"b": 1}]):
                first, second = ("change", f, u), ("change", g, v)
                orders = [tell(("pipe", *pair), datum) for pair in ((first, second), (second, first))]
                self.assertEqual(orders[0].ending, orders[1].ending, (f, g, datum))
                self.assertEqual(shown(orders[0].outcomes), shown(orders[1].outcomes), (f, g, datum))
                many += orders[0].ending == "done" and shown(orders[0].outcomes) != shown((datum,))
        self.assertGreater(many, 100)


class RulesTest(unittest.TestCase):
    """The rules of 56, over many pairs."""

    def test_single_kept_and_regained(self):
        for seed in range(500):
            maker = Maker(seed, ("a", "c"), indexes=(0, 1), leaves=(1,) if seed % 2 else (), everys=not seed % 2)
            f = maker.chooser(maker.random.randint(1, 9))
            if single(f) is None and kept(f, f) is None:
                self.assertIsNone(regained(f), f)
            if regained(f) is None:
                self.assertIsNone(single(f), f)

    def test_regained_outcomes_are_those_that_were_put(self):
        many = 0
        u = ("if", ("is", "number"), ("sum", S, ("leaf", 1)), ("list", S))
        for seed in range(300):
            maker = Maker(seed, ("a", "b"), indexes=(0,), leaves=(1,) if seed % 2 else ())
            f = maker.chooser(maker.random.randint(1, 7))
            for datum in (1, [1, 2], {"a": 1, "b": [2]}, [[1], {"a": 3}], {"a": {"a": 1}}):
                before, behind = tell(("list", f), datum), tell(("pipe", ("change", f, u), ("list", f)), datum)
                if before.ending == "done" and regained(f) is None:
                    wanted = tell(("list", ("pipe", f, u)), datum)
                    self.assertEqual((behind.ending, shown(behind.outcomes)), ("done", shown(wanted.outcomes)), (f, datum))
                    many += len(wanted.outcomes[0])
                same = tell(("change", f, S), datum)
                if before.ending == "done":
                    self.assertEqual(shown(same.outcomes), shown((datum,)))
                    self.assertTrue(all(deed[2] == deed[3] for deed in deeds(("change", f, S), datum)))
                else:
                    self.assertRaises(Fails, deeds, ("change", f, S), datum)
        self.assertGreater(many, 100)


class LimitsTest(unittest.TestCase):
    """Choosers at the bounds of 49."""

    def test_each_answer_comes_soon(self):
        asks = both(("if", ("or", at(A, ("is", "list")), ("or", at(B, ("equal", 1)), at(C, ("is", "text")))), S, NONE),
                    ("if", at(A, at(A, YES)), NONE, NONE))
        others = ("if", ("or", at(A, at(B, ("is", "list"))), ("or", at(B, at(A, ("equal", 1))), at(C, at(C, ("is", "text"))))), A, NONE)
        sorts = ("if", ("is", "list"), S, ("if", ("is", "dict"), S, NONE))
        for f, g in (
            (asks, others), (others, asks), (others, others), (pipe(E, E, sorts), pipe(E, E)),
            (both(pipe(E, ("if", ("is", "list"), S, NONE)), E), both(E, pipe(E, ("if", ("is", "dict"), E, S)))),
            (both(pipe(E, ("try", A)), pipe(("try", A), ("other", NONE, E))), both(pipe(A, E), pipe(E, A))),
            (both(pipe(E, I1, I1), pipe(I0, E, I1, I0)), both(pipe(I1, I1, E, I0), pipe(E, I1, I1))),
            (pipe(both(A, C), both(("try", A), ("try", C))),) * 2,
        ):
            begin = time.process_time()
            for function in FUNCTIONS_OF_TWO:
                function(f, g)
            for function in FUNCTIONS_OF_ONE:
                function(f)
            self.assertLess(time.process_time() - begin, 10, (f, g))


if __name__ == "__main__":
    unittest.main()

"""Promise 78: machines of codes, told by the table of the document, and like the runs of the same choosers."""

import copy
import inspect
import types
import unittest

from sieveways.code import Code, code_of
from sieveways.errors import InvalidCount, InvalidDatum, InvalidLimit
from sieveways.machine import Machine
from sieveways.runs import Run
from tests.plain_machine import plain_machine, random_choosers, random_codes
from tests.values import any_values, nested, shown

E = ("every",)
GIVE = ("give",)
NONE = ("none",)
FAIL = ("fail",)
OPEN = ("open",)
A = ("field", "a")
I0 = ("item", 0)
YES = ("is", "yes")
DATA = [None, True, 1, "a", [], {}, [1, 2], [0, [1], {"a": 2}], {"a": 1}, {"a": {"b": [1, 2]}, "b": [3, {"a": 0}]},
        [[1, 2], [3]], {"a": [{"b": 1}, {"b": 2}]}, [[], [[]]]]


def branch(number):
    return ("branch", number)


def asked(machine, most=200):
    """What a run or machine tells, outcome by outcome: each with the way, the open choices and the steps so far."""
    found = []
    while len(found) < most:
        told = machine.ask()
        found.append((told, machine.way, machine.held, machine.events, len(machine)))
        if told[0] != "outcome":
            break
    return shown(found)


class InterfaceTest(unittest.TestCase):
    def test_names_of_arguments(self):
        *told, last = inspect.signature(Machine).parameters.values()
        self.assertEqual([parameter.name for parameter in told], ["code", "datum"])
        self.assertEqual(last, inspect.Parameter("limit", inspect.Parameter.KEYWORD_ONLY, default=1000))
        self.assertEqual(list(inspect.signature(Machine.take).parameters), ["self", "number"])
        for name in ("ask", "rest", "copy"):
            self.assertEqual(list(inspect.signature(getattr(Machine, name)).parameters), ["self"])
        for name in ("ask", "take", "rest", "copy", "__len__", "events", "way", "held"):
            self.assertIn(name, vars(Machine))
        for name in ("events", "way", "held"):
            self.assertIsInstance(vars(Machine)[name], property)
        self.assertFalse(hasattr(Machine, "from_way"))
        self.assertEqual(Machine.__module__, "sieveways.machine")

    def test_by_name(self):
        machine = Machine(code=Code([GIVE]), datum=5, limit=0)
        self.assertEqual(machine.take(number=3), [5])
        self.assertRaises(TypeError, Machine, Code([GIVE]), 5, 5)


class RowsTest(unittest.TestCase):
    def check(self, rows, datum, told, events, ending=("done",)):
        """The outcomes with their ways and open choices, all steps, and the ending."""
        machine = Machine(Code(rows), datum)
        for outcome, way, held in told:
            self.assertEqual(shown((machine.ask(), machine.way, machine.held)), shown((("outcome", outcome), way, held)), rows)
        self.assertEqual(machine.ask(), ending)
        self.assertEqual(machine.events, tuple(events))
        self.assertEqual((machine.way, machine.held, len(machine)), (None, 0, len(told)))

    def test_give_none_and_fail(self):
        self.check([GIVE], [5], [([5], (), 0)], [])
        self.check([NONE], [5], [], [])
        self.check([FAIL], [5], [], [], ("failing", "fail"))

    def test_field_and_item(self):
        self.check([A, GIVE], {"a": 5}, [(5, (), 0)], [A])
        self.check([A, GIVE], {"b": 5}, [], [A], ("failing", "field"))
        self.check([A, GIVE], [5], [], [A], ("failing", "field"))
        self.check([I0, GIVE], [5], [(5, (), 0)], [I0])
        self.check([I0, GIVE], [], [], [I0], ("failing", "item"))
        self.check([I0, GIVE], {"a": 5}, [], [I0], ("failing", "item"))

    def test_every(self):
        self.check([E, GIVE], [5, 6], [(5, (0,), 1), (6, (1,), 0)], [("part", 0), ("part", 1)])
        self.check([E, GIVE], {"b": 5, "a": 6}, [(6, (0,), 1), (5, (1,), 0)], [("part", "a"), ("part", "b")])
        self.check([E, GIVE], 5, [], [], ("failing", "every"))
        self.check([E, FAIL], [], [], [])
        self.check([E, E, GIVE], [[1], [], [2, 3]], [(1, (0, 0), 1), (2, (2, 0), 1), (3, (2, 1), 0)],
                   [("part", 0), ("part", 0), ("part", 1), ("part", 2), ("part", 0), ("part", 1)])

    def test_an_every_without_elements_is_a_none(self):
        self.check([("guard", 3), E, FAIL, GIVE], [], [([], (), 0)], [branch(1)])
        self.check([("shield", 3), E, FAIL, GIVE], {}, [({}, (), 0)], [branch(1)])
        self.check([("fork", 2), E, GIVE], [], [([], (1,), 0)], [branch(0), branch(1)])

    def test_fork(self):
        self.check([("fork", 2), GIVE, A, GIVE], {"a": 5}, [({"a": 5}, (0,), 1), (5, (1,), 0)], [branch(0), branch(1), A])
        self.check([("fork", 2), ("fork", 2), GIVE], 5, [(5, (0, 0), 2), (5, (0, 1), 1), (5, (1,), 0)],
                   [branch(0), branch(0), branch(1), branch(1)])
        self.check([("fork", 1), GIVE], 5, [(5, (0,), 1), (5, (1,), 0)], [branch(0), branch(1)])
        self.check([("fork", 2), FAIL, GIVE], 5, [], [branch(0)], ("failing", "fail"))
        self.check([("fork", 2), NONE, GIVE], 5, [(5, (1,), 0)], [branch(0), branch(1)])

    def test_jump(self):
        self.check([("jump", 2), FAIL, GIVE], 5, [(5, (), 0)], [])
        self.check([("jump", 1), ("jump", 3), FAIL, GIVE], 5, [(5, (), 0)], [])

    def test_test(self):
        rows = [("test", YES, 2), GIVE, NONE]
        self.check(rows, True, [(True, (), 0)], [branch(0)])
        self.check(rows, 1, [], [branch(1)])
        self.check([E, ("test", ("at", A, YES), 3), A, GIVE], [{"a": True}, {"a": 1}], [(True, (0,), 1), ({"a": 1}, (1,), 0)],
                   [("part", 0), branch(0), A, ("part", 1), branch(1)])

    def test_shield(self):
        rows = [("shield", 3), A, OPEN, GIVE]
        self.check(rows, {"a": 5}, [(5, (), 0)], [A, branch(0)])
        self.check(rows, {"b": 5}, [({"b": 5}, (), 0)], [A, branch(1)])
        self.check([("shield", 3), NONE, GIVE, GIVE], 5, [(5, (), 0)], [branch(1)])
        self.check([("shield", 2), FAIL, GIVE], 5, [(5, (), 0)], [branch(1)])
        self.check([("shield", 2), E, GIVE], 5, [(5, (), 0)], [branch(1)])
        # Behind what is kept nothing is kept any more.
        self.check([("shield", 2), FAIL, FAIL], 5, [], [branch(1)], ("failing", "fail"))
        self.check([("shield", 2), FAIL, NONE], 5, [], [branch(1)])
        self.check([("shield", 3), OPEN, FAIL, GIVE], 5, [], [branch(0)], ("failing", "fail"))

    def test_guard(self):
        rows = [("guard", 3), A, OPEN, GIVE]
        self.check(rows, {"a": 5}, [(5, (), 0)], [A, branch(0)])
        self.check(rows, {"b": 5}, [], [A], ("failing", "field"))
        self.check([("guard", 3), A, NONE, GIVE], {"a": 5}, [({"a": 5}, (), 0)], [A, branch(1)])
        self.check([("guard", 2), FAIL, GIVE], 5, [], [], ("failing", "fail"))
        self.check([("guard", 2), E, GIVE], 5, [], [], ("failing", "every"))

    def test_what_takes_the_place_of_what_is_kept(self):
        self.check([("shield", 4), ("guard", 3), FAIL, GIVE, GIVE], 5, [], [], ("failing", "fail"))
        self.check([("guard", 4), ("shield", 3), FAIL, GIVE, FAIL], 5, [(5, (), 0)], [branch(1)])
        self.check([("shield", 4), A, ("shield", 4), FAIL, GIVE], {"a": 5}, [(5, (), 0)], [A, branch(1)])
        self.check([("shield", 5), ("shield", 5), OPEN, OPEN, FAIL, GIVE], 5, [], [branch(0)], ("failing", "fail"))

    def test_an_open_without_what_is_kept(self):
        self.check([OPEN, OPEN, GIVE], 5, [(5, (), 0)], [])

    def test_choices_behind_what_is_kept(self):
        # Each element comes with the shield as it was there, and the choices made behind it stay in the way.
        self.check([("shield", 3), E, A, GIVE], [{"a": 5}, 6, {"a": 7}],
                   [(5, (0,), 1), ([{"a": 5}, 6, {"a": 7}], (1,), 1), (7, (2,), 0)],
                   [("part", 0), A, ("part", 1), A, branch(1), ("part", 2), A])
        self.check([E, ("shield", 4), A, OPEN, GIVE], [{"a": 5}, 6], [(5, (0,), 1), (6, (1,), 0)],
                   [("part", 0), A, branch(0), ("part", 1), A, branch(1)])
        self.check([("fork", 3), ("shield", 4), ("jump", 4), ("guard", 5), FAIL, GIVE], 5, [], [branch(0), branch(1)],
                   ("failing", "fail"))
        self.check([("shield", 4), ("fork", 3), OPEN, FAIL, GIVE], 5, [], [branch(0), branch(0)], ("failing", "fail"))
        self.check([("shield", 4), ("fork", 3), NONE, FAIL, GIVE], 5, [(5, (0,), 1), (5, (1,), 0)],
                   [branch(0), branch(1), branch(1), branch(1)])
        self.check([("guard", 3), E, NONE, GIVE], [6, 7], [([6, 7], (0,), 1), ([6, 7], (1,), 0)],
                   [("part", 0), branch(1), ("part", 1), branch(1)])

    def test_like_the_table_of_the_document(self):
        endings = {}
        for code, _ in random_codes(0, 400):
            for datum in DATA:
                rows, ending, failure, events = plain_machine(code.rows, datum)
                endings[ending] = endings.get(ending, 0) + 1
                many = len(events)
                for limit in [*range(min(many, 6)), many - 1, many, many + 1, many + 7, 1000]:
                    if 0 <= limit <= 1000:
                        self.check_limit(code, datum, limit)
        self.assertGreater(min(endings["done"], endings["failing"]), 300)

    def check_limit(self, code, datum, limit):
        rows, ending, failure, events = plain_machine(code.rows, datum, limit)
        told = [(("outcome", outcome), way, held, events[:many], number + 1)
                for number, (outcome, way, held, many) in enumerate(rows)]
        last = (ending,) if failure is None else (ending, failure)
        told.append((last, None, 0, events, len(rows)))
        self.assertEqual(asked(Machine(code, datum, limit=limit)), shown(told), (code.rows, datum, limit))


class LikeRunsTest(unittest.TestCase):
    def test_at_every_limit(self):
        for term, _ in random_choosers(1000, 1250):
            code = code_of(term)
            for datum in DATA:
                machine = Machine(code, datum)
                self.assertEqual(asked(machine), asked(Run(term, datum)), (term, datum))
                many = len(machine.events)
                for limit in [*range(min(many + 2, 12)), many, many + 1, 2000]:
                    run = Run(term, datum, limit=limit)
                    self.assertEqual(asked(Machine(code, datum, limit=limit)), asked(run), (term, datum, limit))

    def test_great_choosers(self):
        for term, _ in random_choosers(1400, 1500, 100):
            for datum in DATA:
                self.assertEqual(asked(Machine(code_of(term), datum)), asked(Run(term, datum)), (term, datum))
        deep = nested(40, lambda inner: ("both", ("same",), inner), E)
        self.assertEqual(asked(Machine(code_of(deep), [1, 2])), asked(Run(deep, [1, 2])))
        wide = nested(20, lambda inner: ("pipe", ("both", inner, ("none",)), ("same",)), E)
        self.assertEqual(asked(Machine(code_of(wide), [1, 2])), asked(Run(wide, [1, 2])))

    def test_many_steps(self):
        data = [[[0] * 9 for _ in range(9)] for _ in range(9)]
        term = ("pipe", E, ("pipe", ("both", E, E), E))
        for limit in (0, 1, 999, 1000, 1646, 1647, 2000):
            self.assertEqual(asked(Machine(code_of(term), data, limit=limit), 3000), asked(Run(term, data, limit=limit), 3000))
        self.assertEqual(asked(Machine(code_of(term), data), 3000), asked(Run(term, data), 3000))


class MachineTest(unittest.TestCase):
    def machine(self, limit=1000):
        return Machine(Code([("fork", 3), E, GIVE, FAIL]), [5, 6], limit=limit)

    def test_ask(self):
        machine = self.machine()
        self.assertEqual((machine.events, machine.way, machine.held, len(machine)), ((), None, 0, 0))
        self.assertEqual(machine.ask(), ("outcome", 5))
        self.assertEqual((machine.events, machine.way, machine.held, len(machine)), ((branch(0), ("part", 0)), (0, 0), 2, 1))
        self.assertEqual(machine.ask(), ("outcome", 6))
        self.assertEqual((machine.events[2:], machine.way, machine.held, len(machine)), ((("part", 1),), (0, 1), 1, 2))
        for _ in range(3):
            self.assertEqual(machine.ask(), ("failing", "fail"))
            self.assertEqual((machine.events[3:], machine.way, machine.held, len(machine)), ((branch(1),), None, 0, 2))

    def test_the_same_ending_again(self):
        for limit, ending in ((0, ("limit",)), (3, ("limit",)), (4, ("failing", "fail"))):
            machine = self.machine(limit)
            machine.take(10)
            self.assertEqual([machine.ask(), machine.ask(), machine.take(3), list(machine.rest()), machine.ask()],
                             [ending, ending, [], [], ending])
            self.assertEqual(len(machine.events), limit)
        done = Machine(Code([NONE]), 5)
        self.assertEqual([done.ask(), done.ask()], [("done",), ("done",)])

    def test_no_step_that_is_not_needed(self):
        machine = self.machine()
        self.assertEqual((machine.take(0), machine.events), ([], ()))
        self.assertEqual((machine.take(1), len(machine.events)), ([5], 2))
        self.assertEqual((machine.take(1), len(machine.events)), ([6], 3))
        machine = self.machine()
        rest = machine.rest()
        self.assertIsInstance(rest, types.GeneratorType)
        self.assertEqual(machine.events, ())
        self.assertEqual((next(rest), len(machine.events)), (5, 2))
        self.assertEqual((next(rest), len(machine.events)), (6, 3))
        self.assertEqual((list(rest), len(machine.events)), ([], 4))

    def test_take(self):
        self.assertEqual(self.machine().take(1), [5])
        self.assertEqual(self.machine().take(2), [5, 6])
        self.assertEqual(self.machine().take(2000), [5, 6])
        self.assertEqual(self.machine(2).take(2), [5])

    def test_no_count(self):
        for value in any_values() + [-1, 2001, 10 ** 50, "3", [1], (1,), 1.5]:
            if type(value) is int and 0 <= value <= 2000:
                continue
            machine = self.machine()
            with self.assertRaises(InvalidCount) as caught:
                machine.take(value)
            self.assertIs(caught.exception.value, value)
            self.assertEqual(machine.take(1), [5])

    def test_copy(self):
        for many in range(4):
            machine = self.machine()
            machine.take(many)
            other = machine.copy()
            self.assertIsInstance(other, Machine)
            before = (machine.events, machine.way, machine.held, len(machine))
            self.assertEqual((other.events, other.way, other.held, len(other)), before)
            further = asked(other)
            self.assertEqual((machine.events, machine.way, machine.held, len(machine)), before)
            self.assertEqual(asked(machine.copy()), further)
            self.assertEqual(asked(machine), further)
        machine = self.machine(3)
        machine.ask()
        self.assertEqual(machine.copy().take(9), [6])
        self.assertEqual(machine.copy().copy().rest().__next__(), 6)

    def test_copies_at_random(self):
        for code, random in random_codes(2000, 2150):
            for datum in DATA:
                machine = Machine(code, datum, limit=random.choice([2, 5, 50]))
                machine.take(random.choice([0, 1, 2]))
                other = machine.copy()
                further = asked(other.copy())
                self.assertEqual(asked(machine), further, (code.rows, datum))
                self.assertEqual(asked(other), further)

    def test_what_is_told_is_new(self):
        datum = [[1], [2]]
        machine = Machine(Code([("fork", 1), GIVE]), datum)
        machine.ask()[1].append(5)
        self.assertEqual(machine.ask(), ("outcome", [[1], [2]]))
        machine = Machine(Code([("fork", 1), GIVE]), datum)
        datum[0].append(7)
        self.assertEqual(machine.ask(), ("outcome", [[1], [2]]))
        self.assertEqual(datum, [[1, 7], [2]])

    def test_errors_in_order(self):
        code = Code([GIVE])
        for value in any_values() + [(), {1: 2}, "%", 10 ** 31, [()], nested(61)]:
            for limit in (5, None):
                try:
                    Machine(code, value, limit=limit)
                except InvalidDatum as error:
                    self.assertIs(error.value, value)
                    self.assertRaises(InvalidDatum, Run, ("same",), value, limit=limit)
                except InvalidLimit:
                    self.assertIsNone(limit)
        for value in any_values() + [2001, -1, 1.5, "5"]:
            if type(value) is int and 0 <= value <= 2000:
                continue
            with self.assertRaises(InvalidLimit) as caught:
                Machine(code, 5, limit=value)
            self.assertIs(caught.exception.value, value)
            self.assertIsInstance(caught.exception, ValueError)

    def test_arguments_stay_as_they_were(self):
        datum = {"b": [[1], 2], "a": {"c": []}}
        before = copy.deepcopy(datum)
        code = Code([E, E, GIVE])
        asked(Machine(code, datum))
        self.assertEqual((shown(datum), list(datum), code.rows), (shown(before), ["b", "a"], (E, E, GIVE)))


if __name__ == "__main__":
    unittest.main()

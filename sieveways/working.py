"""The state of a machine, and what it does at each row of its code."""

from sieveways.choosers import holds
from sieveways.data import has_step, steps_into
from sieveways.engine import StepsDone


class Work:
    """The state of a machine. A path is linked as that of a run; so are the choices that have something left.

    A choice is what comes next there, and what was there: the datum, what was kept, the path, the choices ahead.
    What is kept is (word, number, datum), None if nothing is.
    """

    def __init__(self, rows, datum, limit):
        self.program = rows
        self.limit = limit
        self.noted = []
        self.number = 0
        self.datum = datum
        self.kept = None
        self.path = None
        self.choices = None
        self.is_behind = False

    def twin(self):
        """A state equal to this one, that goes on by itself."""
        other = Work(self.program, self.datum, self.limit)
        other.noted = list(self.noted)
        other.number = self.number
        other.kept = self.kept
        other.path = self.path
        other.choices = self.choices
        other.is_behind = self.is_behind
        return other

    def note(self, event):
        """One step more."""
        if len(self.noted) >= self.limit:
            raise StepsDone()
        self.noted.append(event)

    def choice(self, told):
        """Going back comes to this choice first."""
        self.choices = (told, self.datum, self.kept, self.path, self.choices)

    def chose(self, number, is_open):
        """One choice more on the path."""
        self.path = (number, is_open, self.path)

    def go_on(self, datum):
        """Goes on with the next row."""
        self.datum = datum
        self.number += 1

    def opened(self):
        """Takes away what is kept."""
        kept = self.kept
        self.kept = None
        return kept


def worked(work):
    """Drives a machine on: ("outcome", datum), ("done",), ("failing", datum) or ("limit",)."""
    told = None
    try:
        while told is None:
            if work.is_behind:
                work.is_behind = False
                told = _gone_back(work)
            else:
                row = work.program[work.number]
                action = ACTIONS[row[0]]
                told = action(work, row)
    except StepsDone:
        return ("limit",)
    return told


def _gone_back(work):
    """Goes back to the last choice that has something left, and takes what comes next."""
    if work.choices is None:
        return ("done",)
    told, work.datum, work.kept, work.path, work.choices = work.choices
    if told[0] == "fork":
        work.note(("branch", 1))
        work.chose(1, False)
        work.number = told[1]
        return None
    _, work.number, steps, number = told
    return _with_element(work, steps, number)


def _with_element(work, steps, number):
    """Takes one element of the datum, the further ones being a choice."""
    is_open = number + 1 < len(steps)
    if is_open:
        work.choice(("every", work.number, steps, number + 1))
    work.note(("part", steps[number]))
    work.chose(number, is_open)
    work.go_on(work.datum[steps[number]])


def _step(work, row):
    work.note(row)
    if not has_step(work.datum, row[1]) or isinstance(work.datum, dict) != (row[0] == "field"):
        return _fails(work, row[0])
    return work.go_on(work.datum[row[1]])


def _every(work, row):
    if not isinstance(work.datum, (list, dict)):
        return _fails(work, row[0])
    steps = steps_into(work.datum)
    return _with_element(work, steps, 0) if steps else _none(work, row)


def _fork(work, row):
    work.choice(row)
    work.note(("branch", 0))
    work.chose(0, True)
    work.go_on(work.datum)


def _jump(work, row):
    work.number = row[1]


def _test(work, row):
    is_so = holds(row[1], work.datum)
    work.note(("branch", 0 if is_so else 1))
    work.number = work.number + 1 if is_so else row[2]


def _keep(work, row):
    work.kept = (*row, work.datum)
    work.go_on(work.datum)


def _open(work, _):
    if work.opened() is not None:
        work.note(("branch", 0))
    work.go_on(work.datum)


def _give(work, _):
    work.is_behind = True
    return "outcome", work.datum


def _none(work, _):
    if work.kept is None:
        work.is_behind = True
        return None
    return _past_kept(work)


def _fail(work, row):
    return _fails(work, row[0])


def _fails(work, reason):
    if work.kept is None or work.kept[0] != "shield":
        return "failing", reason
    return _past_kept(work)


def _past_kept(work):
    """Goes on with the row of a shield or guard, and with the datum that it kept."""
    _, work.number, work.datum = work.opened()
    work.note(("branch", 1))


ACTIONS = {
    "field": _step, "item": _step, "every": _every, "fork": _fork, "jump": _jump, "test": _test, "shield": _keep,
    "guard": _keep, "open": _open, "give": _give, "none": _none, "fail": _fail,
}

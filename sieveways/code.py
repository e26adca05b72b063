"""Codes: choosers as rows that a machine does, one after the other."""

from sieveways.choosers import demand_chooser
from sieveways.errors import InvalidCode
from sieveways.filters import is_index, is_test
from sieveways.told import is_told_alike
from sieveways.words import is_integer, is_name

# What stands behind the word of each row, in turn; a number is that of a later row.
ROWS = {
    "field": ("key",), "item": ("index",), "every": (), "fork": ("number",), "jump": ("number",),
    "test": ("test", "number"), "shield": ("number",), "guard": ("number",), "open": (), "give": (), "none": (),
    "fail": (),
}
# Behind these rows the machine does not go on with the next one, but for a jump, which tells with which.
ENDS = ("give", "none", "fail")


class Code:
    """A code: what a machine does."""

    def __init__(self, rows):
        wrong = _first_wrong(rows)
        if wrong is not None:
            raise InvalidCode(wrong)
        self._rows = tuple(rows)

    @property
    def rows(self):
        """The rows, in order."""
        return self._rows

    def __len__(self):
        return len(self._rows)

    def __iter__(self):
        return iter(self._rows)

    def __eq__(self, other):
        return isinstance(other, Code) and is_told_alike(self._rows, other._rows)


def is_code(value):
    """Whether any value is a list or tuple of rows of which a code can be made."""
    return isinstance(value, (list, tuple)) and _first_wrong(value) is None


def _first_wrong(rows):
    """The index of the first row (any value) that is none; how many there are if they do not end; otherwise None."""
    for index, row in enumerate(rows):
        if not _is_row(row, index, len(rows)):
            return index
    return None if rows and rows[-1][0] in ENDS else len(rows)


def _is_row(value, index, many):
    """Whether any value can be the row with this index among so many."""
    if not isinstance(value, tuple) or not value or not isinstance(value[0], str) or value[0] not in ROWS:
        return False
    fields = ROWS[value[0]]
    if len(value) != len(fields) + 1:
        return False
    return all([_is_field(field, told, index, many) for told, field in zip(fields, value[1:])])


def _is_field(value, told, index, many):
    """Whether any value can stand where the table of rows tells this word."""
    if told == "key":
        return is_name(value)
    if told == "index":
        return is_index(value)
    if told == "test":
        return is_test(value)
    return is_integer(value) and index < value < many


def code_of(term):
    """The code that does what a chooser does."""
    demand_chooser(term)
    rows = [*_compiled(term), ("give",)]
    return Code([_with_number(row, index + row[-1]) if _number_of(row) else row for index, row in enumerate(rows)])


def _number_of(row):
    """The number of a row that a row has, 0 if it has none: no row goes on with the first one."""
    return row[-1] if "number" in ROWS[row[0]] else 0


def _with_number(row, number):
    """The row with another number of a row."""
    return (*row[:-1], number)


def _compiled(term):
    """The rows that do what a chooser does and go on behind themselves.

    Numbers tell how many rows further on the row is that is meant, so rows can be put anywhere.
    """
    word = term[0]
    if word == "same":
        return []
    if word == "pipe":
        return [*_compiled(term[1]), *_compiled(term[2])]
    if word == "both":
        return _branched(("fork",), _compiled(term[1]), _compiled(term[2]))
    if word == "if":
        return _branched(("test", term[1]), _compiled(term[2]), _compiled(term[3]))
    if word == "try":
        return _branched(("shield",), [*_compiled(term[1]), ("open",)], [("none",)])
    if word == "other":
        return _branched(("guard",), [*_compiled(term[1]), ("open",)], _compiled(term[2]))
    return [term]


def _branched(row, first, second):
    """A row that goes on with the first rows, or by its number with the second ones, and further on behind both."""
    return [(*row, len(first) + 2), *first, ("jump", len(second) + 1), *second]


def shorter(code):
    """The code that does the same without rows that are not needed."""
    rows = list(code)
    many = len(rows) + 1
    # A number changes only where a row is left out, or where a jump is passed over, which then is left out.
    while len(rows) < many:
        many = len(rows)
        rows = _shortened(rows)
    return Code(rows)


def _shortened(rows):
    """The rows without detours over jumps, without those that cannot be come to, and without needless jumps."""
    straight = [_with_number(row, _end_of_jumps(rows, _number_of(row))) if _number_of(row) else row for row in rows]
    stay = _come_to(straight)
    further = dict(zip(stay, stay[1:]))
    stay = [index for index in stay if straight[index] != ("jump", further.get(index))]
    new = {old: number for number, old in enumerate(stay)}
    return [_renumbered(straight[index], new) for index in stay]


def _end_of_jumps(rows, number):
    """The number at which a machine is behind all jumps that come at a number."""
    while rows[number][0] == "jump":
        number = rows[number][1]
    return number


def _come_to(rows):
    """The indexes of the rows that can be come to from the first one, ascending."""
    reached = {0: True}
    # Numbers are those of later rows.
    for index, row in enumerate(rows):
        if index in reached:
            if row[0] not in ENDS and row[0] != "jump":
                reached[index + 1] = True
            if _number_of(row):
                reached[_number_of(row)] = True
    return sorted(reached)


def _renumbered(row, new):
    return _with_number(row, new[row[-1]]) if _number_of(row) else row

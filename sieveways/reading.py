"""Texts of terms, read piece by piece: at the first piece that cannot stand where it does, nothing more is read."""

from sieveways.data import SORTS
from sieveways.errors import InvalidText
from sieveways.filters import MOST_HANDED, is_index
from sieveways.forms import FORMS, PART_KINDS, begins_kind, narrowed
from sieveways.grammar import LEAVES
from sieveways.pieces import pieces_of
from sieveways.words import is_free_name

MOST_OPEN = 20
# The forms that begin with a mark, other than parentheses, and those that begin with another word than their own.
MARKED = {"[": "list", "{": "dict", ".": "same"}
WORDED = {"each": "every", "null": "leaf", "yes": "leaf", "no": "leaf"}


class Part:
    """A filter or test that was read: where it stands without parentheses around it, and with them; and its parts."""

    def __init__(self, term, at, end, inner):
        self.term = term
        self.at = at
        self.end = end
        self.outer_at = at
        self.outer_end = end
        self.inner = inner


class Reader:
    """A text that is read: its pieces, the one at hand, and the pairs of parentheses around filters and tests."""

    def __init__(self, text):
        if not isinstance(text, str):
            raise InvalidText(0)
        self.pieces = pieces_of(text)
        self.number = 0
        self.many_open = 0
        self.pairs = []

    def piece(self):
        """The piece at hand."""
        return self.pieces[self.number]

    def is_at(self, told):
        """Whether the piece at hand is a certain word or mark."""
        piece = self.piece()
        return piece.kind in ("word", "mark") and piece.told == told

    def refuse(self):
        """The piece at hand cannot stand here."""
        raise InvalidText(self.piece().at)

    def taken(self):
        """Goes on behind the piece at hand."""
        self.number += 1
        return self.pieces[self.number - 1]

    def expect(self, told):
        """Goes on behind a certain word or mark."""
        if not self.is_at(told):
            self.refuse()
        return self.taken()

    def expect_other(self, kind, others):
        """Goes on behind a piece of a kind that tells none of others, and returns what it tells."""
        if self.piece().kind != kind or self.piece().told in others:
            self.refuse()
        return self.taken().told

    def expect_free(self, kind, others=()):
        """Goes on behind a piece of a kind that tells a free name, none of others, and returns the name."""
        if not is_free_name(self.piece().told):
            self.refuse()
        return self.expect_other(kind, others)

    def expect_leaf(self):
        """Goes on behind a piece that tells a leaf, and returns the leaf."""
        piece = self.piece()
        if piece.kind == "leaf":
            return self.taken().told
        if piece.kind != "word" or piece.told not in LEAVES:
            self.refuse()
        return LEAVES[self.taken().told]

    def opened(self, told):
        """Goes on behind a word or mark by which something is open from here on."""
        if self.many_open == MOST_OPEN:
            self.refuse()
        piece = self.expect(told)
        self.many_open += 1
        return piece

    def shut(self, told):
        """Goes on behind the word or mark by which something is open no more."""
        piece = self.expect(told)
        self.many_open -= 1
        return piece


def part_read(text, kind):
    """What a text of a filter, walk, chooser or test tells, and the pairs of parentheses around parts."""
    reader = Reader(text)
    part = _read(reader, kind)
    if reader.piece().kind != "end":
        reader.refuse()
    return part, reader.pairs


def _read(reader, kind):
    """A part of any level."""
    return _read_or(reader) if kind == "test" else _read_pipe(reader, kind)


def _joined(word, left, right):
    """The part of a form with a sign between its parts."""
    return Part((word, left.term, right.term), left.outer_at, right.outer_end, [left, right])


def _joined_from_right(word, parts):
    """Parts that are joined one to another by the same word, the last ones first."""
    whole = parts[-1]
    for part in reversed(parts[:-1]):
        whole = _joined(word, part, whole)
    return whole


def _read_or(reader):
    parts = [_read_and(reader)]
    while reader.is_at("or"):
        reader.taken()
        parts.append(_read_and(reader))
    return _joined_from_right("or", parts)


def _read_and(reader):
    parts = [_read_tight(reader, "test")]
    while reader.is_at("and"):
        reader.taken()
        parts.append(_read_tight(reader, "test"))
    return _joined_from_right("and", parts)


def _read_pipe(reader, kind):
    parts = []
    is_last = False
    while not is_last:
        parts.append(_read_piped(reader, kind))
        # The right parts of a def and of an as go on as far as they can.
        is_last = not reader.is_at("|")
        if not is_last:
            reader.taken()
    return _joined_from_right("pipe", parts)


def _read_piped(reader, kind):
    """A part of a pipe, or the rest of it that begins with a def or an as."""
    if kind == "filter" and reader.is_at("def"):
        return _read_def(reader)
    first = _read_sum(reader, kind)
    if kind == "filter" and reader.is_at("as"):
        return _read_as(reader, first)
    parts = [_read_compared(reader, kind, first)]
    while kind != "walk" and reader.is_at(","):
        reader.taken()
        parts.append(_read_compared(reader, kind, _read_sum(reader, kind)))
    return _joined_from_right("both", parts)


def _read_compared(reader, kind, first):
    """A comparison, of which the first part was read, or this part alone."""
    for word, sign in (("alike", "="), ("before", "<")):
        if kind == "filter" and reader.is_at(sign):
            reader.taken()
            return _joined(word, first, _read_sum(reader, kind))
    return first


def _read_sum(reader, kind):
    whole = _read_product(reader, kind)
    while kind == "filter" and (reader.is_at("+") or reader.is_at("-")):
        word = "sum" if reader.taken().told == "+" else "less"
        whole = _joined(word, whole, _read_product(reader, kind))
    return whole


def _read_product(reader, kind):
    whole = _read_tight(reader, kind)
    while kind == "filter" and reader.is_at("*"):
        reader.taken()
        whole = _joined("product", whole, _read_tight(reader, kind))
    return whole


def _read_def(reader):
    begin = reader.opened("def")
    name = reader.expect_free("word")
    names = []
    if reader.is_at("("):
        reader.opened("(")
        names.append(reader.expect_free("word"))
        while len(names) < MOST_HANDED and reader.is_at(";"):
            reader.taken()
            names.append(reader.expect_free("word", names))
        reader.shut(")")
    reader.expect(":")
    body = _read(reader, "filter")
    reader.expect("in")
    further = _read(reader, "filter")
    reader.many_open -= 1
    return Part(("def", name, tuple(names), body.term, further.term), begin.at, further.outer_end, [body, further])


def _read_as(reader, first):
    reader.opened("as")
    name = reader.expect_free("name")
    reader.expect("|")
    further = _read(reader, "filter")
    reader.many_open -= 1
    return Part(("as", first.term, name, further.term), first.outer_at, further.outer_end, [first, further])


def _read_tight(reader, kind):
    """A part that binds tightly."""
    piece = reader.piece()
    if piece.kind == "mark":
        return _read_marked(reader, kind)
    if piece.kind == "word":
        return _read_word(reader, kind)
    if piece.kind in ("wrong", "end") or not begins_kind(piece.kind, kind):
        reader.refuse()
    told = reader.expect_free("name") if piece.kind == "name" else reader.taken().told
    return Part((piece.kind, told), piece.at, piece.end, [])


def _read_marked(reader, kind):
    """A part that begins with a mark."""
    mark = reader.piece().told
    if mark == "(":
        return _read_in_parentheses(reader, kind)
    if mark not in MARKED or not begins_kind(MARKED[mark], kind):
        reader.refuse()
    if mark == "[":
        return _read_list(reader)
    return _read_dict(reader) if mark == "{" else _read_alone(reader, "same", kind)


def _read_in_parentheses(reader, kind):
    begin = reader.opened("(")
    part = _read(reader, kind)
    end = reader.shut(")")
    part.outer_at = begin.at
    part.outer_end = end.end
    reader.pairs.append((begin.at, end.at))
    return part


def _read_list(reader):
    begin = reader.opened("[")
    part = _read(reader, "filter")
    end = reader.shut("]")
    return Part(("list", part.term), begin.at, end.end, [part])


def _read_dict(reader):
    begin = reader.opened("{")
    keys = []
    parts = []
    is_last = reader.is_at("}")
    while not is_last:
        keys.append(reader.expect_other("word", keys))
        reader.expect(":")
        parts.append(_read(reader, "filter"))
        is_last = not reader.is_at(";")
        if not is_last:
            reader.taken()
    end = reader.shut("}")
    entries = tuple([(key, part.term) for key, part in zip(keys, parts)])
    return Part(("dict", entries), begin.at, end.end, parts)


def _read_word(reader, kind):
    """A part that begins with a word; a free name calls a filter."""
    word = reader.piece().told
    form = "call" if is_free_name(word) else WORDED.get(word, word)
    if form not in READERS or not begins_kind(form, kind):
        reader.refuse()
    action = READERS[form]
    return action(reader, form, kind)


def _read_alone(reader, form, _):
    piece = reader.taken()
    return Part((form,), piece.at, piece.end, [])


def _read_leaf(reader, form, _):
    piece = reader.piece()
    return Part((form, reader.expect_leaf()), piece.at, piece.end, [])


def _read_call(reader, form, _):
    name = reader.taken()
    if not reader.is_at("("):
        return Part((form, name.told, ()), name.at, name.end, [])
    reader.opened("(")
    parts = [_read(reader, "filter")]
    while len(parts) < MOST_HANDED and reader.is_at(";"):
        reader.taken()
        parts.append(_read(reader, "filter"))
    end = reader.shut(")")
    return Part((form, name.told, tuple([part.term for part in parts])), name.at, end.end, parts)


def _read_called(reader, form, kind):
    """A form of which all that it has stands in parentheses behind its word."""
    begin = reader.taken()
    reader.opened("(")
    fields = []
    parts = []
    for told in FORMS[form]:
        if fields:
            reader.expect(";")
        if told in PART_KINDS:
            parts.append(_read(reader, narrowed(kind, told)))
            fields.append(parts[-1].term)
        else:
            fields.append(_read_field(reader, told))
    end = reader.shut(")")
    return Part((form, *fields), begin.at, end.end, parts)


def _read_field(reader, told):
    """An index, a key or a name."""
    if told == "key":
        return reader.expect_other("field", ())
    if told == "free":
        return reader.expect_free("name")
    if reader.piece().kind != "leaf" or not is_index(reader.piece().told):
        reader.refuse()
    return reader.taken().told


def _read_branched(reader, form, kind):
    """An if or a when."""
    begin = reader.opened(form)
    parts = [_read(reader, narrowed(kind, FORMS[form][0]))]
    for word in ("then", "else"):
        reader.expect(word)
        parts.append(_read(reader, kind))
    end = reader.shut("end")
    return Part((form, *[part.term for part in parts]), begin.at, end.end, parts)


def _read_is(reader, form, _):
    begin = reader.taken()
    sort = reader.piece()
    if sort.kind != "word" or sort.told not in SORTS:
        reader.refuse()
    reader.taken()
    return Part((form, sort.told), begin.at, sort.end, [])


def _read_equal(reader, form, _):
    begin = reader.taken()
    leaf = reader.piece()
    return Part((form, reader.expect_leaf()), begin.at, leaf.end, [])


def _read_not(reader, form, kind):
    begins = []
    while reader.is_at("not"):
        begins.append(reader.taken())
    part = _read_tight(reader, kind)
    for begin in reversed(begins):
        part = Part((form, part.term), begin.at, part.outer_end, [part])
    return part


READERS = {
    "every": _read_alone, "none": _read_alone, "fail": _read_alone, "leaf": _read_leaf, "call": _read_call,
    "if": _read_branched, "when": _read_branched, "is": _read_is, "equal": _read_equal, "not": _read_not,
    "try": _read_called, "other": _read_called, "catch": _read_called, "reduce": _read_called, "first": _read_called,
    "take": _read_called, "fails": _read_called, "places": _read_called, "change": _read_called, "drop": _read_called,
    "add": _read_called, "append": _read_called, "at": _read_called,
}

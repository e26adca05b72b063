"""Pieces: what texts are made of."""

from sieveways.data import GREATEST, is_leaf
from sieveways.filters import MOST_INDEX
from sieveways.words import MOST_LETTERS

LETTERS = "abcdefghijklmnopqrstuvwxyz"
DIGITS = "0123456789"
MARKS = "()[]{}|,:;+-*=<."
MOST_DIGITS = 31


class Piece:
    """A piece of a text: its kind, what it tells, and where it begins and ends.

    Kinds are "word", "field", "item", "name", "leaf" (an integer or a string), "mark"; a "wrong" one is none, and an
    "end" stands behind the last one.
    """

    def __init__(self, kind, told, at, end):
        self.kind = kind
        self.told = told
        self.at = at
        self.end = end


def pieces_of(text):
    """All pieces of a text up to the first wrong one, and the end."""
    found = []
    at = _gap_end(text, 0)
    while at < len(text) and (not found or found[-1].kind != "wrong"):
        piece = _piece_at(text, at)
        found.append(piece)
        at = _gap_end(text, piece.end)
    return [*found, Piece("end", None, len(text), len(text))]


def would_join(text, at):
    """Whether a piece that ends at an index would be read as one with what stands there."""
    ahead = [piece for piece in pieces_of(text[:at]) if piece.end == at and piece.kind not in ("end", "wrong")]
    if not ahead:
        return False
    piece = _piece_at(text, ahead[0].at)
    return piece.end != at or piece.kind == "wrong"


def _gap_end(text, at):
    """The index behind spaces, newlines and remarks."""
    while at < len(text) and text[at] in " \n#":
        if text[at] == "#":
            end = text.find("\n", at)
            at = len(text) if end < 0 else end
        else:
            at += 1
    return at


def _piece_at(text, at):
    """The piece that begins at an index; a wrong one ends behind its first letter."""
    letter = text[at]
    further = text[at + 1:at + 2]
    if letter in LETTERS:
        end = _run_end(text, at, LETTERS)
        return _piece("word", text[at:end], at, end, end - at <= MOST_LETTERS)
    if letter in ".$" and further and further in LETTERS:
        end = _run_end(text, at + 1, LETTERS)
        return _piece("field" if letter == "." else "name", text[at + 1:end], at, end, end - at - 1 <= MOST_LETTERS)
    if letter == "." and further and further in DIGITS:
        return _number_piece("item", text, at, at + 1, MOST_INDEX)
    if letter in DIGITS or letter == "-" and further and further in DIGITS:
        return _number_piece("leaf", text, at, at + 1 if letter == "-" else at, GREATEST)
    if letter == "\"":
        return _string_piece(text, at)
    return _piece("mark", letter, at, at + 1, letter in MARKS)


def _piece(kind, told, at, end, is_right):
    return Piece(kind, told, at, end) if is_right else Piece("wrong", None, at, at + 1)


def _run_end(text, at, letters):
    """The index behind all letters of a kind that stand side by side."""
    while at < len(text) and text[at] in letters:
        at += 1
    return at


def _number_piece(kind, text, at, begin, greatest):
    """A piece with digits from a begin on, a negative integer behind a sign."""
    end = _run_end(text, begin, DIGITS)
    digits = text[begin:end]
    # Python does not read numbers of any length.
    number = int(digits) if len(digits) <= MOST_DIGITS else greatest + 1
    is_right = number <= greatest and (digits == "0" or digits[0] != "0")
    if text[at] == "-":
        return _piece(kind, -number, at, end, is_right and number > 0)
    return _piece(kind, number, at, end, is_right)


def _string_piece(text, at):
    """A piece between double quotes."""
    letters = []
    end = at + 1
    while end < len(text) and text[end] != "\"":
        if text[end] == "\\":
            end += 1
            if text[end:end + 1] not in ("\"", "\\"):
                break
        letters.append(text[end])
        end += 1
    told = "".join(letters)
    return _piece("leaf", told, at, end + 1, text[end:end + 1] == "\"" and is_leaf(told))

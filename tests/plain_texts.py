"""Whether a text can begin with some pieces, told by the grammar of the document, and layouts made at random."""

import functools

SORTS = ("null", "no", "yes", "number", "text", "list", "dict")
# Each piece stands for its kind here: names of calls are "n", keys "k", and so on.
LEAVES = ["null", "yes", "no", "INT", "STR"]


def shared(kind):
    """The rules of filters, choosers and walks; the kind is the letter with which its symbols begin."""
    tight, loose = kind + "6", kind + "0"
    rules = {
        loose: [[kind + "2"], [kind + "2", "|", loose]],
        kind + "2": [[kind + "3"]],
        kind + "3": [[kind + "4"]],
        kind + "4": [[kind + "5"]],
        kind + "5": [[tight]],
        tight: [["(", loose, ")"], ["."], ["FIELD"], ["ITEM"], ["none"], ["fail"],
                ["if", "T0", "then", loose, "else", loose, "end"]],
    }
    if kind != "W":
        rules[kind + "2"].append([kind + "3", ",", kind + "2"])
        rules[tight] += [["each"], ["try", "(", "W0", ")"], ["other", "(", "W0", ";", loose, ")"]]
    return rules


def grammar():
    """All rules."""
    rules = {**shared("F"), **shared("C"), **shared("W")}
    rules["F0"] += [
        ["F4", "as", "NAME", "|", "F0"], ["def", "WORD", ":", "F0", "in", "F0"],
        ["def", "WORD", "(", "WORD", ")", ":", "F0", "in", "F0"],
        ["def", "WORD", "(", "WORD", ";", "WORD", ")", ":", "F0", "in", "F0"],
        ["def", "WORD", "(", "WORD", ";", "WORD", ";", "WORD", ")", ":", "F0", "in", "F0"],
    ]
    rules["F3"] += [["F4", "=", "F4"], ["F4", "<", "F4"]]
    rules["F4"] += [["F4", "+", "F5"], ["F4", "-", "F5"]]
    rules["F5"] += [["F5", "*", "F6"]]
    rules["F6"] += [[leaf] for leaf in LEAVES] + [
        ["NAME"], ["[", "F0", "]"], ["{", "}"], ["{", "PAIRS", "}"], ["when", "F0", "then", "F0", "else", "F0", "end"],
        ["WORD"], ["WORD", "(", "F0", ")"], ["WORD", "(", "F0", ";", "F0", ")"], ["WORD", "(", "F0", ";", "F0", ";", "F0", ")"],
        ["catch", "(", "F0", ";", "F0", ")"], ["reduce", "(", "F0", ";", "NAME", ";", "F0", ";", "F0", ")"],
        ["first", "(", "F0", ")"], ["take", "(", "INT", ";", "F0", ")"], ["fails", "(", "F0", ")"], ["places", "(", "C0", ")"],
        ["change", "(", "C0", ";", "F0", ")"], ["drop", "(", "C0", ")"], ["add", "(", "C0", ";", "FIELD", ";", "F0", ")"],
        ["append", "(", "C0", ";", "F0", ")"],
    ]
    rules["PAIRS"] = [["KEY", ":", "F0"], ["KEY", ":", "F0", ";", "PAIRS"]]
    rules["T0"] = [["T1"], ["T1", "or", "T0"]]
    rules["T1"] = [["T2"], ["T2", "and", "T1"]]
    rules["T2"] = [["(", "T0", ")"], ["not", "T2"], ["at", "(", "W0", ";", "T0", ")"]]
    rules["T2"] += [["is", sort] for sort in SORTS] + [["equal", leaf] for leaf in LEAVES]
    return rules


RULES = {head: [tuple(body) for body in bodies] for head, bodies in grammar().items()}
WORDS = set(
    "null yes no each none fail try other if then else end when as catch reduce first take fails def in change drop places "
    "add append is equal at and or not".split()
)


@functools.lru_cache(maxsize=None)
def stands_for(piece):
    """The signs of the grammar for which a piece can stand."""
    if piece[0] == '"':
        return {"STR"}
    if piece[0] == "$":
        return {"NAME"} if piece[1:] not in WORDS else set()
    if piece[0] == "." and len(piece) > 1:
        return {"FIELD"} if piece[1].isalpha() else {"ITEM"}
    if piece.lstrip("-").isdigit():
        return {"INT"}
    if piece.isalpha():
        return {piece, "KEY"} | ({"WORD"} if piece not in WORDS else set())
    return {piece}


def first_wrong(start, pieces):
    """The number of the first piece with which no text goes on, how many there are if more must follow, None if all is right."""
    chart = [completed([{(start, body, 0, 0) for body in RULES[start]}], 0)]
    for number, piece in enumerate(pieces):
        signs = stands_for(piece)
        moved = {(head, body, dot + 1, origin) for head, body, dot, origin in chart[-1] if dot < len(body) and body[dot] in signs}
        if not moved:
            return number
        chart.append(moved)
        chart[-1] = completed(chart, number + 1)
    is_whole = any(head == start and dot == len(body) and origin == 0 for head, body, dot, origin in chart[-1])
    return None if is_whole else len(pieces)


def completed(chart, number):
    """All rules in progress behind so many pieces, as Earley tells."""
    found = set(chart[number])
    waiting = list(found)
    while waiting:
        head, body, dot, origin = waiting.pop()
        if dot < len(body):
            new = [(body[dot], inner, 0, number) for inner in RULES.get(body[dot], [])]
        else:
            rows = found if origin == number else chart[origin]
            new = [(outer, told, at + 1, begin) for outer, told, at, begin in rows if at < len(told) and told[at] == head]
        for row in new:
            if row not in found:
                found.add(row)
                waiting.append(row)
    return found


def needs_space(one, other):
    """Whether two pieces would be read as one, or otherwise, if they stood side by side."""
    if one[-1].isalnum() and one[0] not in '"' and other[0].isalnum():
        return one[-1].isalpha() == other[0].isalpha() or one[0] in ".$" and one[-1].isalpha() and other[0].isalpha()
    return one in (".", "-") and other[0].isdigit() or one == "." and other[0].isalpha()


def laid_out(pieces, random):
    """A text with these pieces, and where each of them begins."""
    text = random.choice(["", "", " ", "\n # begin\n"])
    begins = []
    for number, piece in enumerate(pieces):
        begins.append(len(text))
        text += piece
        gap = random.choice(["", "", "", " ", " ", "  ", "\n", " # why (\n", "#\"\n"])
        if not gap and number + 1 < len(pieces) and needs_space(piece, pieces[number + 1]):
            gap = " "
        text += gap
    return text, begins

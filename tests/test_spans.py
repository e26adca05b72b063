"""Promises 84 to 86: where parts stand in texts, texts with other parts, and texts with fewer parentheses."""

import inspect
import random
import unittest

from sieveways import spans as module
from sieveways.errors import InvalidText, NoSpot, NotFitting, OutOfRange
from sieveways.filters import is_chooser, is_filter, is_test, is_walk
from sieveways.forms import kinds_and_parts
from sieveways.spans import bare, part_around, rewritten, spans, tidied
from sieveways.spots import part_at_spot, spots, with_spot
from sieveways.texts import read_term, read_test, write_term, write_test
from tests.plain_texts import WORDS, laid_out, needs_space
from tests.test_filters import FILTERS, NO_FILTERS, TESTS
from tests.test_texts import FORMS, LEVELS, random_terms
from tests.values import any_values, shown

S = ("same",)
A = ("field", "a")
B = ("field", "b")
E = ("every",)
NONE = ("none",)
YES = ("is", "yes")
CALLING = {"try", "other", "catch", "reduce", "first", "take", "fails", "places", "change", "drop", "add", "append", "at"}
TEXTS = [
    ".a", "each|(.a,.b)  # both", "( each )|( .a | .b ) , .c", "if is list then.a else.b end", "if(is list)then(.a)else((.b))end",
    "def f(a;b):(a|b)in f(.a;(each))", "{a:.a;b:(.b)}", "[(.a),.b]", ".a as $x|$x+.b", "(.a)as $x|($x)", "1+2*3- 4", "(1+2)*(3- 4)", "1-(2- 3)",
    "try(.a)|other((.a);each)", "reduce(each;$x;0;.+$x)", "when . =1 then 2 else 3 end", "if not(is yes or is no)and equal 1then each else none end",
    "if at(.a;((is yes)))then . else . end", "add(each;.k;(1))", "take(3;(each))", "f(((.)))", "((((.a))))", " # first\n( .a ) # (last\n",
    '"(" + ("a\\")")', ".a - .b", ".a-(3)", ".a-(-3)", "(.)|(.)", "if is yes then(.)else(.)end", "drop(.a|(.b,.c))", "(def f:. in .)|.",
    ".a<(.b),(.c=.d)", "(.a|.b)|.c", ".a|(.b|.c)", "(.a,.b),.c", ".a,(.b,.c)", "catch(fail;(.))", "def f:(def g:. in g)in f", "(.a as $x|.b)|.c",
]
# Filters, walks and choosers of each level, and tests.
PARTS = [part for _, part, _ in LEVELS] + [
    S, E, NONE, ("item", 7), ("leaf", 5), ("leaf", 0), ("leaf", -5), ("leaf", "x y"), ("leaf", None), ("leaf", True), ("pipe", A, ("pipe", B, A)),
    ("both", E, A), ("try", A), ("if", YES, A, B), ("other", A, B), ("call", "f", (S,)), ("dict", ()), ("name", "x"), ("fail",),
    YES, ("equal", 3), ("not", YES), ("and", YES, YES), ("or", YES, ("not", YES)), ("at", A, YES),
]


def kind_at(term, spot):
    """What must stand at a spot."""
    kind = "filter"
    for number in spot:
        told, term = kinds_and_parts(term)[number]
        kind = kind if told == "filter" else told
    return kind


def fits(part, kind):
    return {"filter": is_filter, "walk": is_walk, "chooser": is_chooser, "test": is_test}[kind](part)


def is_text_of(text, term):
    try:
        return shown(read_term(text)) == shown(term)
    except InvalidText:
        return False


def pieces_in(text):
    """The pieces of a right text, each with where it begins, told by their looks alone."""
    found = []
    at = 0
    while at < len(text):
        end = at + 1
        if text[at] == "#":
            end = (text + "\n").index("\n", at)
        elif text[at] == '"':
            while text[end] != '"':
                end += 2 if text[end] == "\\" else 1
            end += 1
        elif text[at].isalpha() or text[at] in ".$" and text[end:end + 1].isalpha():
            while text[end:end + 1].isalpha():
                end += 1
        elif text[at].isdigit() or text[at] in ".-" and text[end:end + 1].isdigit():
            while text[end:end + 1].isdigit():
                end += 1
        if text[at] not in " \n#":
            found.append((at, text[at:end]))
        at = end
    return found


def pairs_in(text):
    """The pairs of parentheses around filters and tests, in the order in which they begin."""
    waiting = []
    found = []
    pieces = pieces_in(text)
    for number, (at, piece) in enumerate(pieces):
        if piece == "(":
            ahead = pieces[number - 1][1] if number else ""
            waiting.append((at, ahead.isalpha() and (ahead in CALLING or ahead not in WORDS)))
        elif piece == ")":
            begin, is_of_form = waiting.pop()
            found += [] if is_of_form else [(begin, at)]
    return sorted(found)


def without_letter(text, at):
    """The text without one letter, and a space in its place where two pieces would be read as one."""
    ahead = [piece for begin, piece in pieces_in(text) if begin + len(piece) == at]
    behind = [piece for begin, piece in pieces_in(text) if begin == at + 1]
    gap = " " if ahead and behind and needs_space(ahead[0], behind[0]) else ""
    return text[:at] + gap + text[at + 1:]


def plain_bare(text):
    """The text without needless pairs, as the document tells."""
    term = read_term(text)
    begin = 0
    while True:
        pairs = [pair for pair in pairs_in(text) if pair[0] >= begin]
        if not pairs:
            return text
        first, last = pairs[0]
        if is_text_of(text[:first] + " " + text[first + 1:last] + " " + text[last + 1:], term):
            text = without_letter(without_letter(text, last), first)
            begin = first
        else:
            begin = first + 1


def random_texts(begin, end, most=25):
    """Texts of random terms, in layouts at random, with parentheses put around some parts."""
    for term, randomness in random_terms(begin, end, most):
        text, _ = laid_out(write_term(term).split(" ") if '" "' not in write_term(term) else ["."], randomness)
        for _ in range(randomness.choice([0, 1, 3])):
            rows = spans(text)
            _, first, last = randomness.choice(rows)
            more = randomness.choice(["({})", "( {} )", "((\n{}))"]).format(text[first:last].replace("{", "{{").replace("}", "}}"))
            more = more.replace("{{", "{").replace("}}", "}")
            text = text[:first] + more + text[last:]
        yield text, randomness


class InterfaceTest(unittest.TestCase):
    def test_names_of_arguments(self):
        told = {"spans": ["text"], "part_around": ["text", "index"], "rewritten": ["text", "spot", "part"], "bare": ["text"], "tidied": ["text"]}
        for name, names in told.items():
            function = getattr(module, name)
            self.assertEqual(list(inspect.signature(function).parameters), names)
            self.assertEqual(function.__module__, "sieveways.spans")
        self.assertEqual(spans(text="."), [((), 0, 1)])
        self.assertEqual([part_around(text=".", index=0), rewritten(text=".", spot=(), part=A), bare(text="(.)"), tidied(text="(.)")], [(), ".a", ".", "."])

    def test_the_examples(self):
        self.assertEqual([tidied("(each)|((.a),.b)"), rewritten("each|(.a,.b)  # both", (1, 0), ("pipe", S, NONE))],
                         ["each | .a , .b", "each|((. | none),.b)  # both"])
        self.assertEqual([spans("each|(.a)"), part_around("each|(.a)", 5), bare("( each )|( .a | .b ) , .c")],
                         [[((), 0, 9), ((0,), 0, 4), ((1,), 6, 8)], (), " each |( .a | .b ) , .c"])

    def test_wrong_texts(self):
        for text, index in {"": 0, ". |": 3, "( .": 3, "each each": 5, ". $": 2, "is yes": 0, "[ ]": 2}.items():
            calls = [lambda: spans(text), lambda: part_around(text, None), lambda: part_around(text, 0), lambda: rewritten(text, None, None),
                     lambda: rewritten(text, (), S), lambda: bare(text), lambda: tidied(text)]
            for call in calls:
                with self.assertRaises(InvalidText) as caught:
                    call()
                self.assertEqual(caught.exception.index, index)
        for value in any_values() + [S, b".", ["."]]:
            if not isinstance(value, str):
                for call in (spans, bare, tidied, lambda told: part_around(told, 0), lambda told: rewritten(told, (), S)):
                    with self.assertRaises(InvalidText) as caught:
                        call(value)
                    self.assertEqual(caught.exception.index, 0)


class SpansTest(unittest.TestCase):
    def test_each_form(self):
        for text, term in FORMS.items():
            rows = spans(text)
            self.assertIsInstance(rows, list)
            self.assertEqual(rows[0], ((), 0, len(text)))
            self.assertEqual([row[0] for row in rows], list(spots(term)), text)

    def test_parentheses_around_parts_and_within_them(self):
        told = {
            "(.a)": [((), 1, 3)], " ( ( .a ) ) ": [((), 5, 7)], "(.a)|.b": [((), 0, 7), ((0,), 1, 3), ((1,), 5, 7)],
            ".a|((.b))": [((), 0, 9), ((0,), 0, 2), ((1,), 5, 7)], "((.a)|.b)": [((), 1, 8), ((0,), 2, 4), ((1,), 6, 8)],
            "(.a+.b)*.c": [((), 0, 10), ((0,), 1, 6), ((0, 0), 1, 3), ((0, 1), 4, 6), ((1,), 8, 10)],
            ".a+.b+.c": [((), 0, 8), ((0,), 0, 5), ((0, 0), 0, 2), ((0, 1), 3, 5), ((1,), 6, 8)],
            ".a,.b,.c": [((), 0, 8), ((0,), 0, 2), ((1,), 3, 8), ((1, 0), 3, 5), ((1, 1), 6, 8)],
            "(.a)as $x|($x)": [((), 0, 14), ((0,), 1, 3), ((1,), 11, 13)],
            "first ( (.a) ) # b": [((), 0, 14), ((0,), 9, 11)],
            "def f(a): (a) in f(.)": [((), 0, 21), ((0,), 11, 12), ((1,), 17, 21), ((1, 0), 19, 20)],
            "if(not(is yes))then . else(.)end": [((), 0, 32), ((0,), 3, 14), ((0, 0), 7, 13), ((1,), 20, 21), ((2,), 27, 28)],
            "{a:(.);b:.a}": [((), 0, 12), ((0,), 4, 5), ((1,), 9, 11)],
            "if not not is yes then . else . end": [((), 0, 35), ((0,), 3, 17), ((0, 0), 7, 17), ((0, 0, 0), 11, 17), ((1,), 23, 24), ((2,), 30, 31)],
        }
        for text, rows in told.items():
            self.assertEqual(spans(text), rows, text)

    def test_what_a_span_tells(self):
        for text, _ in random_texts(0, 150):
            term = read_term(text)
            rows = spans(text)
            self.assertEqual([row[0] for row in rows], list(spots(term)))
            for spot, begin, end in rows:
                part = part_at_spot(term, spot)
                read = read_test if kind_at(term, spot) == "test" else read_term
                self.assertEqual(shown(read(text[begin:end])), shown(part), (text, spot))
                first, last = pieces_in(text[begin:end])[0], pieces_in(text[begin:end])[-1]
                self.assertEqual((first[0], last[0] + len(last[1])), (0, end - begin))
                if (0, end - begin - 1) in pairs_in(text[begin:end]):
                    self.fail((text, spot))

    def test_part_around(self):
        for text in TEXTS:
            rows = spans(text)
            for index in range(len(text)):
                around = [row[0] for row in rows if row[1] <= index < row[2]]
                self.assertEqual(part_around(text, index), max(around, key=len, default=()), (text, index))

    def test_no_index(self):
        for value in any_values() + [-1, 9, 10, 1.0, "5", (5,)]:
            if type(value) is int and 0 <= value < 9:
                continue
            with self.assertRaises(OutOfRange) as caught:
                part_around("each|(.a)", value)
            self.assertIs(caught.exception.value, value)
            self.assertIsInstance(caught.exception, LookupError)


class RewrittenTest(unittest.TestCase):
    def test_parentheses_where_they_are_needed(self):
        told = [
            ("each | .a", (0,), ("pipe", S, A), "(. | .a) | .a"), ("each | .a", (1,), ("pipe", S, A), "each | . | .a"),
            ("each , .a", (0,), ("both", S, A), "(. , .a) , .a"), ("each , .a", (1,), ("both", S, A), "each , . , .a"),
            ("each , .a", (1,), ("pipe", S, A), "each , (. | .a)"), ("(each) , .a", (0,), ("pipe", S, A), "(. | .a) , .a"),
            ("1+2", (0,), ("less", S, A), ". - .a+2"), ("1+2", (1,), ("less", S, A), "1+(. - .a)"), ("1*2", (1,), ("product", S, A), "1*(. * .a)"),
            ("1*2", (0,), ("product", S, A), ". * .a*2"), ("1=2", (0,), ("alike", S, A), "(. = .a)=2"), ("1=2", (0,), ("sum", S, A), ". + .a=2"),
            ("each as $x|.", (0,), ("sum", S, A), ". + .a as $x|."), ("each as $x|.", (0,), ("alike", S, A), "(. = .a) as $x|."),
            ("each as $x|.", (1,), ("as", S, "y", A), "each as $x|. as $y | .a"), ("first(.)", (0,), ("pipe", S, A), "first(. | .a)"),
            (".a", (), ("pipe", S, A), ". | .a"), ("(.a)", (), ("pipe", S, A), "(. | .a)"), ("if is yes then . else . end", (0,), ("or", YES, YES),
             "if is yes or is yes then . else . end"), ("if not is yes then . else . end", (0, 0), ("and", YES, YES), "if not (is yes and is yes) then . else . end"),
            ("if is yes and is no then . else . end", (0, 0), ("or", YES, YES), "if (is yes or is yes) and is no then . else . end"),
            ("if is yes and is no then . else . end", (0, 1), ("and", YES, YES), "if is yes and is yes and is yes then . else . end"),
            (". | .", (0,), ("def", "f", (), S, A), "(def f : . in .a) | ."), (". | .", (1,), ("def", "f", (), S, A), ". | def f : . in .a"),
        ]
        for text, spot, part, right in told:
            self.assertEqual(rewritten(text, spot, part), right)

    def test_spaces_where_two_pieces_would_be_read_as_one(self):
        told = [
            ("if is list then.a else.b end", (1,), E, "if is list then each else.b end"), ("if is list then.a else.b end", (1,), S, "if is list then. else.b end"),
            ("if is list then[.]else.b end", (1,), E, "if is list then each else.b end"), ("if is list then[.]else.b end", (1,), S, "if is list then. else.b end"),
            ("if is list then[.]else.b end", (1,), A, "if is list then.a else.b end"), ("if is list then[.]else.b end", (1,), ("leaf", 3), "if is list then3else.b end"),
            ("if is list then[.]else.b end", (1,), ("item", 3), "if is list then.3else.b end"), ("if is list then[.]else[.]end", (2,), ("leaf", "a"), 'if is list then[.]else"a"end'),
            (".a-.b", (1,), ("leaf", 3), ".a- 3"), (".a-.b", (1,), ("leaf", 0), ".a- 0"), (".a-.b", (1,), ("leaf", -3), ".a--3"), (".a-.b", (0,), ("leaf", 3), "3-.b"),
            (".a-.b", (1,), ("sum", ("leaf", 1), S), ".a-(1 + .)"), (".a+.b", (1,), ("leaf", 3), ".a+3"), ("[.]as $x|.", (0,), E, "each as $x|."),
            ("[.]as $x|.", (0,), ("name", "y"), "$y as $x|."), ("def f:[.]in.", (0,), S, "def f:. in."), ("def f:. in.", (1,), E, "def f:. in each"),
            ("if(is yes)then . else . end", (0,), ("equal", 3), "if(equal 3)then . else . end"), ("if is yes then . else . end", (0,), ("equal", 3), "if equal 3 then . else . end"),
            ('if equal"a"then . else . end', (0,), ("equal", 3), "if equal 3then . else . end"), ('if equal"a"then . else . end', (0,), YES, "if is yes then . else . end"),
            ('if at(.a;is yes)and equal""then . else . end', (0, 0), YES, 'if is yes and equal""then . else . end'),
        ]
        for text, spot, part, right in told:
            self.assertEqual(rewritten(text, spot, part), right)

    def check(self, text, spot, part):
        term = read_term(text)
        new = rewritten(text, spot, part)
        row = [row for row in spans(text) if row[0] == spot][0]
        ahead, behind = text[:row[1]], text[row[2]:]
        self.assertTrue(is_text_of(new, with_spot(term, spot, part)), (text, spot, part, new))
        self.assertTrue(new.startswith(ahead) and new.endswith(behind), (text, new))
        middle = new[len(ahead):len(new) - len(behind)]
        told = write_test(part) if kind_at(term, spot) == "test" else write_term(part)
        if middle == f"({told})":
            for plain in (told, f" {told}", f"{told} ", f" {told} "):
                self.assertFalse(is_text_of(ahead + plain + behind, with_spot(term, spot, part)), (text, spot, part))
        else:
            self.assertEqual(middle.strip(" "), told)
            self.assertLessEqual(len(middle), len(told) + 2)
            # A space stands there only where two pieces would be read as one.
            for plain in [middle[1:]] * middle.startswith(" ") + [middle[:-1]] * middle.endswith(" "):
                self.assertNotEqual([piece for _, piece in pieces_in(ahead + plain + behind)], [piece for _, piece in pieces_in(new)])
        return new

    def test_at_each_spot(self):
        for text in TEXTS:
            for spot, begin, end in spans(text):
                kind = kind_at(read_term(text), spot)
                for part in PARTS:
                    if fits(part, kind):
                        self.check(text, spot, part)

    def test_random_texts(self):
        for text, randomness in random_texts(200, 300):
            for spot, _, _ in spans(text):
                kind = kind_at(read_term(text), spot)
                for part in randomness.sample(PARTS, 8):
                    if fits(part, kind):
                        self.check(text, spot, part)

    def test_a_part_for_itself(self):
        for text, _ in random_texts(300, 400):
            term = read_term(text)
            for spot, begin, end in spans(text):
                part = part_at_spot(term, spot)
                new = rewritten(text, spot, part)
                told = write_test(part) if kind_at(term, spot) == "test" else write_term(part)
                self.assertEqual(new, text[:begin] + told + text[end:])
                if text[begin:end] == told:
                    self.assertEqual(new, text)

    def test_two_parts_in_either_order(self):
        for text, randomness in random_texts(400, 500):
            term = read_term(text)
            told = list(spots(term))
            for _ in range(12):
                one, other = randomness.choice(told), randomness.choice(told)
                if one[:len(other)] == other or other[:len(one)] == one:
                    continue
                first = randomness.choice([part for part in PARTS if fits(part, kind_at(term, one))])
                second = randomness.choice([part for part in PARTS if fits(part, kind_at(term, other))])
                self.assertEqual(rewritten(rewritten(text, one, first), other, second), rewritten(rewritten(text, other, second), one, first),
                                 (text, one, first, other, second))

    def test_no_spot(self):
        for value in any_values() + [(0,) * 9, (2,), (-1,), (True,), [0], (1, 1), (1, 0, 0), "0", 0]:
            if value == ():
                continue
            for part in (S, None):
                if value == (0,) and type(value[0]) is int:
                    continue
                with self.assertRaises(NoSpot) as caught:
                    rewritten("each|try(.a)", value, part)
                self.assertIs(caught.exception.spot, value)

    def test_not_fitting(self):
        text = "if at(.a;is yes)then places(each)else try(.b)end"
        kinds = {(): "filter", (0,): "test", (0, 0): "walk", (0, 1): "test", (1,): "filter", (1, 0): "chooser", (2, 0): "walk"}
        values = any_values() + FILTERS + TESTS + NO_FILTERS
        for spot, kind in kinds.items():
            many = 0
            for value in values:
                if fits(value, kind):
                    many += 1
                    rewritten(text, spot, value)
                    continue
                with self.assertRaises(NotFitting) as caught:
                    rewritten(text, spot, value)
                self.assertIs(caught.exception.value, value)
                self.assertIsInstance(caught.exception, ValueError)
            self.assertGreater(many, 1)
        # Within walks and choosers all filters are walks and choosers.
        for spot, part in (((0, 0, 0), E), ((0, 0, 1), ("list", S))):
            self.assertRaises(NotFitting, rewritten, "try(.a|.b)|.", spot, part)
        self.assertRaises(NotFitting, rewritten, "places(.a|(.b,.c))", (0, 1, 0), ("leaf", 1))
        self.assertEqual(rewritten("places(.a|(.b,.c))", (0, 1, 0), ("both", E, E)), "places(.a|((each , each),.c))")


class BareTest(unittest.TestCase):
    def test_pairs(self):
        told = {
            "first ( ( .a ) )": "first (  .a  )", "first((.a))": "first(.a)", "((.a))": ".a", "( .a )": " .a ", "(.a|.b),.c": "(.a|.b),.c",
            "((.a)|(.b)),.c": "(.a|.b),.c", "((.a|.b)),.c": "(.a|.b),.c", "if(is list)then(.a)else((.b))end": "if is list then.a else.b end",
            "(each)as $x|($x)": "each as $x|$x", "[(.)]": "[.]", "f((.);(.a))": "f(.;.a)", "def f(a):(a)in(f(.))": "def f(a):a in f(.)",
            "if not(is yes)then(.)else(.)end": "if not is yes then. else. end",
            "if not(is yes and is no)then . else . end": "if not(is yes and is no)then . else . end", ".a-(3)": ".a- 3", ".a-(-3)": ".a--3",
            ".a-(.b-.c)": ".a-(.b-.c)", "(.a-.b)-.c": ".a-.b-.c", "(.a,.b),.c": "(.a,.b),.c", ".a,(.b,.c)": ".a,.b,.c", "(.a|.b)|.c": "(.a|.b)|.c",
            "if at((.a);(is yes))then . else . end": "if at(.a;is yes)then . else . end", "(def f:. in .)|.": "(def f:. in .)|.",
            ".|(def f:. in .)": ".|def f:. in .", "(.a as $x|.b),.c": "(.a as $x|.b),.c", ".c|(.a as $x|.b)": ".c|.a as $x|.b", "((1)+(2))*(3)": "(1+2)*3",
            "(  # one\n.a)# two (.)": "  # one\n.a# two (.)", '("(")': '"("', "{a:(.)}": "{a:.}", "when(.)then(.a)else(.)end": "when. then.a else. end",
        }
        for text, right in told.items():
            self.assertEqual(bare(text), right, text)

    def test_like_the_document(self):
        many = 0
        for text in TEXTS + [text for text, _ in random_texts(500, 700)]:
            told = bare(text)
            self.assertEqual(told, plain_bare(text), text)
            self.assertEqual(shown(read_term(told)), shown(read_term(text)))
            self.assertEqual(bare(told), told)
            many += told != text
        self.assertGreater(many, 60)

    def test_what_is_left_is_needed(self):
        for text, _ in random_texts(700, 800):
            told = bare(text)
            for first, last in pairs_in(told):
                blank = told[:first] + " " + told[first + 1:last] + " " + told[last + 1:]
                self.assertFalse(is_text_of(blank, read_term(text)), told)

    def test_tidied(self):
        for text in TEXTS + [text for text, _ in random_texts(800, 900)]:
            told = tidied(text)
            self.assertEqual(told, write_term(read_term(text)))
            self.assertEqual((bare(told), tidied(told)), (told, told))
            # The least text is the only one without needless parentheses, with single spaces and without remarks.
            self.assertEqual(" ".join(piece for _, piece in pieces_in(bare(text))), told)


if __name__ == "__main__":
    unittest.main()

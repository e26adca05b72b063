"""Promises 80 to 83: pieces, the least texts of filters, tests and data, and what other texts tell."""

import inspect
import itertools
import random
import unittest

from sieveways import texts
from sieveways.errors import InvalidText
from sieveways.filters import is_closed, is_filter, is_test
from sieveways.runs import tell
from sieveways.texts import read_datum, read_term, read_test, write_datum, write_term, write_test
from tests.plain_runs import FilterMaker
from tests.plain_texts import WORDS, first_wrong, laid_out
from tests.test_filters import FILTERS, TESTS
from tests.values import any_values, nested, shown

S = ("same",)
A = ("field", "a")
E = ("every",)
X = ("name", "x")
YES = ("is", "yes")
ONE = ("leaf", 1)
# The least text of each form.
FORMS = {
    ".": S, ".a": A, ".abcdefgh": ("field", "abcdefgh"), ".each": ("field", "each"), ".0": ("item", 0), ".99": ("item", 99),
    "each": E, "none": ("none",), "fail": ("fail",), ". | .a": ("pipe", S, A), ". , .a": ("both", S, A), ". = .a": ("alike", S, A),
    ". < .a": ("before", S, A), ". + .a": ("sum", S, A), ". - .a": ("less", S, A), ". * .a": ("product", S, A),
    "each as $x | $x": ("as", E, "x", X), "$x": X, "$pipe": ("name", "pipe"), "if is yes then . else .a end": ("if", YES, S, A),
    "when . then .a else each end": ("when", S, A, E), "def f ( a ; b ) : . in f ( . ; .a )":
    ("def", "f", ("a", "b"), S, ("call", "f", (S, A))), "def f ( f ) : f in f ( . )": ("def", "f", ("f",), ("call", "f", ()), ("call", "f", (S,))),
    "def f ( a ; b ; c ) : . in .": ("def", "f", ("a", "b", "c"), S, S), "def f : . in f": ("def", "f", (), S, ("call", "f", ())),
    "f ( . ; .a ; each )": ("call", "f", (S, A, E)), "pipe": ("call", "pipe", ()), "reduce ( each ; $x ; 0 ; . + $x )":
    ("reduce", E, "x", ("leaf", 0), ("sum", S, X)), "take ( 3 ; each )": ("take", 3, E), "take ( 0 ; . )": ("take", 0, S),
    "take ( 99 ; . )": ("take", 99, S), "add ( each ; .k ; 1 )": ("add", E, "k", ONE), "try ( .a )": ("try", A), "other ( .a ; each )":
    ("other", A, E), "catch ( fail ; . )": ("catch", ("fail",), S), "first ( each )": ("first", E), "fails ( . )": ("fails", S),
    "places ( each )": ("places", E), "change ( each ; 1 )": ("change", E, ONE), "drop ( .a )": ("drop", A), "append ( . ; 1 )":
    ("append", S, ONE), "[ each ]": ("list", E), "{ }": ("dict", ()), "{ a : . }": ("dict", (("a", S),)), "{ b : . ; a : .a ; if : each }":
    ("dict", (("b", S), ("a", A), ("if", E))), "null": ("leaf", None), "yes": ("leaf", True), "no": ("leaf", False), "1": ONE, "0": ("leaf", 0),
    "-1": ("leaf", -1), str(10 ** 30): ("leaf", 10 ** 30), str(-10 ** 30): ("leaf", -10 ** 30), '""': ("leaf", ""), '"a b"': ("leaf", "a b"),
    '"\\"\\\\ # ~"': ("leaf", '"\\ # ~'),
}
TEST_FORMS = {
    "is null": ("is", "null"), "is no": ("is", "no"), "is yes": YES, "is number": ("is", "number"), "is text": ("is", "text"),
    "is list": ("is", "list"), "is dict": ("is", "dict"), "equal null": ("equal", None), "equal yes": ("equal", True),
    "equal -5": ("equal", -5), 'equal "is"': ("equal", "is"), "at ( .a | .0 ; is yes )": ("at", ("pipe", A, ("item", 0)), YES),
    "is yes and equal 1": ("and", YES, ("equal", 1)), "is yes or equal 1": ("or", YES, ("equal", 1)), "not is yes": ("not", YES),
    "not not is yes": ("not", ("not", YES)),
}
# Parts of each level, the loosest first, with their least text.
LEVELS = [
    (0, ("as", S, "x", A), ". as $x | .a"), (0, ("def", "f", (), S, A), "def f : . in .a"), (1, ("pipe", S, A), ". | .a"),
    (2, ("both", S, A), ". , .a"), (3, ("alike", S, A), ". = .a"), (3, ("before", S, A), ". < .a"), (4, ("sum", S, A), ". + .a"),
    (4, ("less", S, A), ". - .a"), (5, ("product", S, A), ". * .a"), (6, A, ".a"), (6, ("list", A), "[ .a ]"), (6, ("leaf", -3), "-3"),
    (6, ("if", YES, S, A), "if is yes then . else .a end"), (6, ("call", "f", ()), "f"), (6, ("first", A), "first ( .a )"), (6, X, "$x"),
]
# Each place of a part: how the whole is made, its text, and the loosest level that stands there without parentheses.
PLACES = [
    (lambda part: ("pipe", part, E), "{} | each", 2), (lambda part: ("pipe", E, part), "each | {}", 0),
    (lambda part: ("both", part, E), "{} , each", 3), (lambda part: ("both", E, part), "each , {}", 2),
    (lambda part: ("alike", part, E), "{} = each", 4), (lambda part: ("alike", E, part), "each = {}", 4),
    (lambda part: ("before", part, E), "{} < each", 4), (lambda part: ("before", E, part), "each < {}", 4),
    (lambda part: ("sum", part, E), "{} + each", 4), (lambda part: ("sum", E, part), "each + {}", 5),
    (lambda part: ("less", part, E), "{} - each", 4), (lambda part: ("less", E, part), "each - {}", 5),
    (lambda part: ("product", part, E), "{} * each", 5), (lambda part: ("product", E, part), "each * {}", 6),
    (lambda part: ("as", part, "y", E), "{} as $y | each", 4), (lambda part: ("as", E, "y", part), "each as $y | {}", 0),
    (lambda part: ("def", "g", (), part, E), "def g : {} in each", 0), (lambda part: ("def", "g", (), E, part), "def g : each in {}", 0),
    (lambda part: ("if", YES, part, E), "if is yes then {} else each end", 0), (lambda part: ("if", YES, E, part), "if is yes then each else {} end", 0),
    (lambda part: ("when", part, E, E), "when {} then each else each end", 0), (lambda part: ("list", part), "[ {} ]", 0),
    (lambda part: ("dict", (("k", part), ("l", part))), "{{ k : {0} ; l : {0} }}", 0), (lambda part: ("first", part), "first ( {} )", 0),
    (lambda part: ("catch", part, part), "catch ( {0} ; {0} )", 0), (lambda part: ("call", "g", (part, part)), "g ( {0} ; {0} )", 0),
    (lambda part: ("reduce", part, "y", part, part), "reduce ( {0} ; $y ; {0} ; {0} )", 0), (lambda part: ("take", 2, part), "take ( 2 ; {} )", 0),
    (lambda part: ("change", E, part), "change ( each ; {} )", 0), (lambda part: ("add", E, "k", part), "add ( each ; .k ; {} )", 0),
]


def random_terms(begin, end, most=40):
    for seed in range(begin, end):
        maker = FilterMaker(seed)
        term = maker.filter(maker.random.randint(1, most))
        if is_filter(term):
            yield term, random.Random(seed)


class TextCase(unittest.TestCase):
    def wrong(self, read, text, index):
        with self.assertRaises(InvalidText) as caught:
            read(text)
        self.assertEqual(shown(caught.exception.index), shown(index), text)
        self.assertIsInstance(caught.exception, ValueError)

    def wrong_terms(self, rows):
        for text, index in rows.items():
            self.wrong(read_term, text, index)

    def reads(self, text, term):
        self.assertEqual(shown(read_term(text)), shown(term), text)


class InterfaceTest(unittest.TestCase):
    def test_names_of_arguments(self):
        told = {"write_term": "term", "write_test": "test", "write_datum": "datum", "read_term": "text", "read_test": "text", "read_datum": "text"}
        for name, argument in told.items():
            function = getattr(texts, name)
            self.assertEqual(list(inspect.signature(function).parameters), [argument])
            self.assertEqual(function.__module__, "sieveways.texts")
        self.assertEqual([write_term(term=S), write_test(test=YES), write_datum(datum=[])], [".", "is yes", "[ ]"])
        self.assertEqual([read_term(text="."), read_test(text="is yes"), read_datum(text="[]")], [S, YES, []])


class PiecesTest(TextCase):
    def test_words_and_fields(self):
        self.reads("abcdefgh", ("call", "abcdefgh", ()))
        self.reads(".abcdefgh", ("field", "abcdefgh"))
        self.reads("$abcdefgh", ("name", "abcdefgh"))
        self.wrong_terms({"abcdefghi": 0, ".abcdefghi": 0, "$abcdefghi": 0, ". | .abcdefghi": 4, ". abcdefghi": 2, "[$abcdefghi]": 1})
        self.wrong_terms({"a1": 1, "a.b": 1, ".a.b": 2, ".a b": 3, ".aB": 2, "A": 0, ".A": 1, "$": 0, "$ x": 0, "$X": 0, "$1": 0, ". | $": 4, "$if": 0})

    def test_integers_and_items(self):
        self.reads("0", ("leaf", 0))
        self.reads("-7", ("leaf", -7))
        self.reads(".0", ("item", 0))
        self.reads(str(10 ** 30), ("leaf", 10 ** 30))
        self.reads("." + "99", ("item", 99))
        self.reads(".- -3", ("less", S, ("leaf", -3)))
        self.reads("3--3", ("less", ("leaf", 3), ("leaf", -3)))
        self.reads(". - 3", ("less", S, ("leaf", 3)))
        self.wrong_terms({"00": 0, "07": 0, "-0": 0, "-07": 0, ".00": 0, ".07": 0, ".100": 0, "." + "9" * 99: 0, str(10 ** 30 + 1): 0,
                          str(-10 ** 30 - 1): 0, "1" * 5000: 0, "-" + "1" * 5000: 0, "- 3": 0, ".-3": 1, "3-3": 1, ". , -0": 4, "1 2": 2, "[1,01]": 3})

    def test_strings(self):
        self.reads('"abc"', ("leaf", "abc"))
        self.reads('"\\"" + "\\\\"', ("sum", ("leaf", '"'), ("leaf", "\\")))
        self.reads('"# no remark" # a remark', ("leaf", "# no remark"))
        self.reads('"' + "a" * 200 + '"', ("leaf", "a" * 200))
        self.reads('"' + '\\"' * 200 + '"', ("leaf", '"' * 200))
        self.wrong_terms({'"abc': 0, '"': 0, '"\\"': 0, '"\\': 0, '"a\\n"': 0, '"a\nb"': 0, '"%"': 0, '"\t"': 0, '"\u00e9"': 0, '"' + "a" * 201 + '"': 0,
                          '. + "abc': 4, '"a"b': 3, '"a""b"': 3, "'a'": 0})

    def test_marks_and_other_letters(self):
        self.wrong_terms({"%": 0, ".%": 1, "?": 0, ". \t | .": 2, ".\r": 1, "!": 0, "/": 0, "\u00e9": 0, "a\u00e9": 1, ".\u0661": 1, "\u0661": 0, "&": 0, ". @": 2})

    def test_spaces_newlines_and_remarks(self):
        for text in (" . ", "\n.\n", "# all\n.", ". # all", ".#", "#\n#\n . #\n#", "   .   ", "# ( \" $\n."):
            self.reads(text, S)
        self.wrong_terms({"": 0, " ": 1, "#.": 2, "# .\n": 4, " # .": 4, ". |": 3, ". | # .": 7, ". | \n": 5})
        self.reads("each # one\n| # two\n .a", ("pipe", E, A))

    def test_side_by_side(self):
        self.reads("if is yes then(.)else.a end", ("if", YES, S, A))
        self.reads("eacheach", ("call", "eacheach", ()))
        self.wrong_terms({"if is yes then.else.a end": 19, "firsteach": 0, "..a": 1, ".a.0": 2})
        self.reads("[each]", ("list", E))
        self.reads("{a:.;b:.a}", ("dict", (("a", S), ("b", A))))
        self.reads("def f(a;b):a,b in f(.;.a)", ("def", "f", ("a", "b"), ("both", ("call", "a", ()), ("call", "b", ())), ("call", "f", (S, A))))
        self.reads(".a|.b,.c=.d+.0*.1", ("pipe", A, ("both", ("field", "b"), ("alike", ("field", "c"), (
            "sum", ("field", "d"), ("product", ("item", 0), ("item", 1)))))))

    def test_words_of_the_language_where_names_stand(self):
        self.assertEqual(len(WORDS), 32)
        for word in sorted(WORDS):
            self.wrong(read_term, f"def {word} : . in .", 4)
            self.wrong(read_term, f"def f ( {word} ) : . in .", 8)
            self.wrong(read_term, f"each as ${word} | .", 8)
            self.wrong(read_term, f". | ${word}", 4)
            self.wrong(read_term, f"reduce ( . ; ${word} ; . ; . )", 13)
            self.reads(f"{{ {word} : .{word} }}", ("dict", ((word, ("field", word)),)))
            self.assertEqual(read_datum(f"{{ {word} : 1 }}"), {word: 1})
        for word in ("pipe", "both", "every", "same", "list", "number", "dict", "text", "leaf", "name", "call", "sum", "field"):
            self.reads(f"def {word} : ${word} in {word}", ("def", word, (), ("name", word), ("call", word, ())))


class WriteTest(TextCase):
    def test_each_form(self):
        for text, term in FORMS.items():
            self.assertEqual(write_term(term), text)
            self.reads(text, term)
        for text, test in TEST_FORMS.items():
            self.assertEqual(write_test(test), text)
            self.assertEqual(shown(read_test(text)), shown(test))

    def test_each_form_as_each_part(self):
        for make, text, low in PLACES:
            for level, part, told in LEVELS:
                whole = make(part)
                right = text.format(told if level >= low else f"( {told} )")
                self.assertEqual(write_term(whole), right)
                self.reads(right, whole)
                # Needless parentheses are read, needed ones are not left out.
                self.reads(text.format(f"( {told} )"), whole)
                if level < low:
                    try:
                        self.assertNotEqual(read_term(text.format(told)), whole)
                    except InvalidText:
                        pass

    def test_each_form_of_test_as_each_part(self):
        tests = [(0, ("or", YES, YES), "is yes or is yes"), (1, ("and", YES, YES), "is yes and is yes"), (2, YES, "is yes"), (2, ("not", YES), "not is yes"),
                 (2, ("at", A, ("or", YES, YES)), "at ( .a ; is yes or is yes )")]
        places = [
            (lambda part: ("or", part, YES), "{} or is yes", 1), (lambda part: ("or", YES, part), "is yes or {}", 0),
            (lambda part: ("and", part, YES), "{} and is yes", 2), (lambda part: ("and", YES, part), "is yes and {}", 1),
            (lambda part: ("not", part), "not {}", 2), (lambda part: ("at", A, part), "at ( .a ; {} )", 0),
        ]
        for make, text, low in places:
            for level, part, told in tests:
                right = text.format(told if level >= low else f"( {told} )")
                self.assertEqual(write_test(make(part)), right)
                for layout in (right, text.format(f"( {told} )"), f"( {text.format(f'(({told}))')} )"):
                    self.assertEqual(read_test(layout), make(part))
        whole = ("if", ("or", YES, YES), S, A)
        self.assertEqual(write_term(whole), "if is yes or is yes then . else .a end")

    def test_forms_of_the_document(self):
        for term in FILTERS:
            text = write_term(term)
            self.assertNotIn("  ", text)
            self.reads(text, term)
        for test in TESTS:
            self.assertEqual(shown(read_test(write_test(test))), shown(test))

    def test_data(self):
        rows = {
            "null": None, "yes": True, "no": False, "0": 0, "-12": -12, '"a"': "a", '"\\\\\\""': '\\"', "[ ]": [], "{ }": {}, "[ 1 ]": [1],
            "[ 1 ; [ ] ; null ]": [1, [], None], "{ a : 1 ; b : { c : yes } }": {"b": {"c": True}, "a": 1}, "{ if : [ { } ] }": {"if": [{}]},
        }
        for text, datum in rows.items():
            self.assertEqual(write_datum(datum), text)
            self.assertEqual(shown(read_datum(text)), shown(datum))
        self.assertEqual(shown(read_datum('{b:1;a:"x"}')), shown({"a": "x", "b": 1}))
        self.assertEqual(read_datum(" [ # one\n1;\n2] # two"), [1, 2])

    def test_great_terms(self):
        deep = nested(40, lambda inner: ("product", S, inner), A)
        self.reads(nested(20, lambda inner: f"[{inner}]", "."), nested(20, lambda inner: ("list", inner), S))
        self.assertEqual(write_term(nested(40, lambda inner: ("pipe", S, inner), A)), ". | " * 39 + ".a")
        self.reads(". | " * 39 + ".a", nested(40, lambda inner: ("pipe", S, inner), A))
        self.reads(". - " * 39 + ".a", nested(40, lambda inner: ("less", inner, S), S)[:2] + (A,))
        self.assertEqual(write_term(deep).count("("), 38)
        self.assertEqual(read_test("not " * 39 + "is yes"), nested(40, lambda inner: ("not", inner), YES))

    def test_random_terms(self):
        for term, randomness in random_terms(0, 400):
            text = write_term(term)
            self.reads(text, term)
            layout, _ = laid_out(text.split(" "), randomness)
            if '" "' not in text:
                self.reads(layout, term)
        for term, _ in random_terms(400, 500):
            if is_closed(term):
                for datum in (1, [1, [2]], {"a": {"b": [3]}}):
                    self.assertEqual(tell(read_term(write_term(term)), datum, limit=60), tell(term, datum, limit=60))


class ReadTest(TextCase):
    def test_any_value(self):
        for value in any_values() + [b".", [".", "|"], (".",), S]:
            if not isinstance(value, str):
                for read in (read_term, read_test, read_datum):
                    self.wrong(read, value, 0)
        for read in (read_term, read_test, read_datum):
            self.wrong(read, "", 0)
            self.wrong(read, "%", 0)

    def test_needless_parentheses(self):
        self.reads("((.))", S)
        self.reads("( ( . ) | ( ( .a ) ) )", ("pipe", S, A))
        self.reads("try ( ( .a ) )", ("try", A))
        self.reads("places ( ( (each) | (.a) ) )", ("places", ("pipe", E, A)))
        self.reads("(def f : (.) in (f))", ("def", "f", (), S, ("call", "f", ())))
        self.reads("(each) as $x | ($x)", ("as", E, "x", X))
        self.reads("if (is yes) then (.) else ((.a)) end", ("if", YES, S, A))
        self.reads("f((.);(.a))", ("call", "f", (S, A)))
        self.reads("[(.),(.a)]", ("list", ("both", S, A)))
        self.reads("(. , .a) , each", ("both", ("both", S, A), E))
        self.reads("(. | .a) | each", ("pipe", ("pipe", S, A), E))
        self.reads(". - .a - each", ("less", ("less", S, A), E))
        self.reads(". - (.a - each)", ("less", S, ("less", A, E)))
        self.reads(". , .a , each", ("both", S, ("both", A, E)))
        self.reads(". | .a | each", ("pipe", S, ("pipe", A, E)))
        self.assertEqual(read_test("((at ( ( .a ) ; ( is yes ) )))"), ("at", A, YES))

    def test_what_more_must_follow(self):
        for text in ("(", "[", "{", "{ a", "{ a :", "{ a : .", "{ a : . ;", ". |", ". ,", ". =", ". +", ". *", ". -", "def", "def f", "def f (", "def f ( a",
                     "def f ( a ;", "def f ( a ; b ; c", "def f :", "def f : .", "def f : . in", ". as", ". as $x", ". as $x |", "if", "if is", "if is yes",
                     "if is yes and", "if not", "if is yes then", "if is yes then .", "if is yes then . else", "if is yes then . else .", "when",
                     "when .", "when . then . else .", "reduce", "reduce (", "reduce ( .", "reduce ( . ;", "reduce ( . ; $x", "reduce ( . ; $x ; . ; .",
                     "take (", "take ( 3", "take ( 3 ;", "add ( . ; .k", "first", "first (", "first ( .", "f (", "f ( .", "f ( . ;", "( .", "((.)"):
            for end in ("", " ", "\n", " # more"):
                self.wrong(read_term, text + end, len(text + end))
        for text in ("is", "not", "equal", "at", "at (", "at ( .", "at ( . ;", "at ( . ; is yes", "(", "( is yes", "is yes or", "is yes and"):
            self.wrong(read_test, text, len(text))
        for text in ("[", "{", "[ 1", "[ 1 ;", "{ a", "{ a :", "{ a : 1", "{ a : 1 ;"):
            self.wrong(read_datum, text, len(text))

    def test_the_first_piece_that_cannot_stand_there(self):
        self.wrong_terms({
            ")": 0, "()": 1, ". )": 2, ". .": 2, "| .": 0, ". | | .": 4, "[ ]": 2, "[ . ; . ]": 4, "{ . }": 2, "{ a }": 4, "{ a : }": 6, "{ a : . ; }": 10,
            "{ a . }": 4, "{ 1 : . }": 2, '{ "a" : . }': 2, "f ( )": 4, "f ( . ; )": 8, "f . )": 2, "first .": 6, "first ( )": 8, "first ( . ; . )": 10,
            "catch ( . )": 10, "catch ( . ; . ; . )": 14, "each ( . )": 5, "each . ": 5, "then": 0, "is yes": 0, "as $x | .": 0, "end": 0, "in": 0, "or": 0,
            ". as x | .": 5, ". as $x , .": 8, ". as $x": 7, "def : . in .": 4, "def 1 : . in .": 4, "def f ( ) : . in .": 8, "def f ( a , b ) : . in .": 10,
            "def f . in .": 6, "def f : . | .": 13, "def f : . end": 10, "if . then . else . end": 3, "if is yes else . end": 10, "if is maybe then . else . end": 6,
            "if is yes then . end": 17, "when is yes then . else . end": 5, "when . else": 7, "reduce ( . ; x ; . ; . )": 13, "reduce ( . ; $x ; . )": 20,
            "take ( . ; . )": 7, "take ( 3 . )": 9, "take ( yes ; . )": 7, 'take ( "3" ; . )': 7, "take ( -1 ; . )": 7, "take ( 100 ; . )": 7, "add ( . ; k ; . )": 10,
            "add ( . ; .3 ; . )": 10, "$x ( . )": 3, ". = . = .": 6, ". < . < .": 6, ". = . < .": 6, ". , . as $x | .": 6, ". = . as $x | .": 6,
            ". | . , . as $x | .": 10, ". + def f : . in .": 4, ". , def f : . in .": 4, ". = def f : . in .": 4, ". as $x | . as $y , .": 18, "1 , 2 3": 6, "not is yes": 0,
        })
        self.reads(". | . as $x | .", ("pipe", S, ("as", S, "x", S)))
        self.reads(". | def f : . in .", ("pipe", S, ("def", "f", (), S, S)))
        for text, index in {"": 0, ".": 0, "is": 2, "is maybe": 3, "is yes is no": 7, "equal .": 6, "equal [ ]": 6, "yes": 0, "not .": 4, "at . ; is yes": 3,
                            "at ( each ; is yes )": 5, "at ( . ; . )": 9, "at ( . , . ; is yes )": 7, "is yes and": 10, "( is yes": 8, "is yes )": 7,
                            "not is yes or )": 14, "f": 0, "at ( try ( . ) ; is yes )": 5}.items():
            self.wrong(read_test, text, index)
        for text, index in {"]": 0, "[ 1 2 ]": 4, "[ 1 ; ]": 6, "[ ; 1 ]": 2, "[ 1 , 2 ]": 4, "{ 1 : 2 }": 2, "{ a 2 }": 4, "{ a : }": 6, "{ a : 1 , b : 2 }": 8,
                            ".": 0, "each": 0, "( 1 )": 0, "1 1": 2, "- 1": 0, "[ a ]": 2, "none": 0, '{ "a" : 1 }': 2, "{ a : 1 ; }": 10, "[ 1 }": 4}.items():
            self.wrong(read_datum, text, index)

    def test_walks_and_choosers(self):
        not_walks = ["each", "1", "$x", "f", "[", "{", "null", "try", "other", "first", "when", "def", "catch", '"a"', "places", "drop", "take", "-5"]
        for piece in not_walks:
            self.wrong(read_term, f"try ( {piece}", 6)
            self.wrong(read_term, f"try ( .a | ( {piece}", 13)
            self.wrong(read_term, f"other ( {piece}", 8)
            self.wrong(read_term, f"if at ( {piece}", 8)
            self.wrong(read_term, f"try ( if is yes then {piece}", 21)
            self.wrong(read_term, f"places ( if at ( {piece}", 17)
            if piece not in ("each", "try", "other"):
                for text in ("places ( ", "drop ( ", "change ( ", "add ( ", "append ( ", "places ( each | ", "drop ( other ( .a ; ", "places ( if is yes then "):
                    self.wrong(read_term, text + piece, len(text))
        for sign in ("=", "<", "+", "-", "*", "as"):
            self.wrong(read_term, f"places ( .a {sign}", 12)
            self.wrong(read_term, f"try ( .a {sign}", 9)
            self.wrong(read_term, f"places ( ( .a ) {sign}", 16)
        self.wrong(read_term, "try ( .a ,", 9)
        self.wrong(read_term, "other ( .a , .b ; . )", 11)
        self.reads("other ( .a ; 1 + each )", ("other", A, ("sum", ONE, E)))
        self.reads("change ( try ( .a ) , each ; 1 + each )", ("change", ("both", ("try", A), E), ("sum", ONE, E)))
        self.reads("places ( other ( .a ; each | .a ) )", ("places", ("other", A, ("pipe", E, A))))

    def test_keys_and_names_twice(self):
        self.wrong_terms({"{ a : . ; a : . }": 10, "{ a : . ; b : . ; a": 18, "def f ( a ; a ) : . in .": 12, "def f ( a ; b ; a ) : . in .": 16})
        self.reads("{ a : { a : . } }", ("dict", (("a", ("dict", (("a", S),))),)))
        self.wrong(read_datum, "{ a : 1 ; a : 2 }", 10)
        self.wrong(read_datum, "[ { b : 1 ; a : 2 ; b", 20)
        self.assertEqual(read_datum("{ a : { a : 1 } ; b : { a : 2 } }"), {"a": {"a": 1}, "b": {"a": 2}})

    def test_at_most_three_names_in_parentheses(self):
        self.wrong_terms({"def f ( a ; b ; c ; d ) : . in .": 18, "def f ( a ; b ; c ;": 18, "f ( . ; . ; . ; . )": 14, "f ( . ; . ; . ;": 14})

    def test_what_is_open(self):
        """Up to 20 things may be open."""
        opens = {"( ": "( ", "[ ": "[ ", "{ a : ": "{ ", "if is yes then ": "if ", "when ": "when ", ". as $x | ": "as ", "def f : ": "def ", "first ( ": "( ",
                 "f ( . ; ": "( ", "def f : . in ": "def "}
        ends = {"[ ": " ]", "{ a : ": " }", "if is yes then ": " else . end", "when ": " then . else . end", ". as $x | ": "", "def f : ": " in .",
                "def f : . in ": ""}
        for begin, piece in opens.items():
            end = ends.get(begin, " )")
            right = begin * 20 + "." + end * 20
            self.assertIs(is_filter(read_term(right)), True)
            self.wrong(read_term, begin * 20 + begin + "." + end * 21, len(begin * 20) + begin.index(piece))
            for other, inner in opens.items():
                self.wrong(read_term, begin * 20 + other, len(begin * 20) + other.index(inner))
                self.wrong(read_term, begin * 19 + other + other, len(begin * 19 + other) + other.index(inner))
        # A word ahead of what would be open stands.
        text = "( " * 20 + "first"
        self.wrong(read_term, text, len(text))
        self.wrong(read_term, text + " (", len(text) + 1)
        self.wrong(read_test, "( " * 20 + "at ( .", 43)
        self.assertEqual(read_test("(" * 20 + "not is yes" + ")" * 20), ("not", YES))
        self.wrong(read_test, "(" * 21 + "is yes" + ")" * 21, 20)
        self.wrong(read_term, "if " + "( " * 20, 3 + 2 * 19)
        # What is shut is open no more; an as and a def are open up to the end of their right part.
        self.reads("(" * 19 + "[ . ] , { } , first ( . )" + ")" * 19, ("both", ("list", S), ("both", ("dict", ()), ("first", S))))
        self.reads("( . as $x | . ) , " * 30 + ".", nested(31, lambda inner: ("both", ("as", S, "x", S), inner), S))
        self.reads("(" * 18 + "(. as $x | .) , [.]" + ")" * 18, ("both", ("as", S, "x", S), ("list", S)))
        self.wrong(read_term, "(" * 18 + ". as $x | . | [ [", 18 + 16)

    def test_data_that_are_too_great(self):
        self.assertEqual(len(read_datum("[" + ";".join(["1"] * 999) + "]")), 999)
        self.wrong(read_datum, "[" + ";".join(["1"] * 1000) + "]", 1 + 2 * 999)
        letters = "abcdefghijklmnopqrstuvwxyz"
        text = "{" + ";".join(f"{one + two + three}:1" for one in "ab" for two in letters for three in letters)
        self.wrong(read_datum, text, [at for at, letter in enumerate(text) if letter == "1"][999])
        # A mark or a key ahead of the part stands.
        begin = "[" + ";".join(["1"] * 999)
        for more in (";", "; "):
            self.wrong(read_datum, begin + more, len(begin + more))
        self.wrong(read_datum, begin + ";[", len(begin) + 1)
        self.wrong(read_datum, begin + ";]", len(begin) + 1)
        begin = "{a:[" + ";".join(["1"] * 998) + "]"
        self.wrong(read_datum, begin + ";b:", len(begin + ";b:"))
        self.wrong(read_datum, begin + ";b:1}", len(begin + ";b:"))
        self.assertEqual(read_datum("[" * 60 + "]" * 60), nested(60, core=[]))
        self.assertEqual(read_datum("[" * 59 + "1" + "]" * 59), nested(60, core=1))
        self.wrong(read_datum, "[" * 60 + "1" + "]" * 60, 60)
        self.wrong(read_datum, "[" * 61 + "]" * 61, 60)
        self.wrong(read_datum, "[" * 60 + ";", 60)
        self.wrong(read_datum, "{a:" * 60 + "1", 180)
        self.wrong(read_datum, "{a:" * 60, 180)
        self.wrong(read_datum, "{a:" * 60 + "{}", 180)

    def test_pieces_left_out_doubled_and_exchanged(self):
        more = [".", ".a", ".3", "$x", "5", "-2", '"s"', "each", "f", "(", ")", "[", "]", "{", "}", "|", ",", ":", ";", "+", "-", "*", "=", "<", "is", "not"]
        more += sorted(WORDS)
        many = 0
        for term, randomness in random_terms(500, 620, 25):
            pieces = write_term(term).split(" ")
            for number in range(len(pieces)):
                for new in ([], [pieces[number]] * 2, [randomness.choice(more)], [randomness.choice(pieces)]):
                    many += self.check_pieces(pieces[:number] + new + pieces[number + 1:], randomness)
        self.assertGreater(many, 3000)

    def check_pieces(self, pieces, randomness):
        """Compares what is wrong with what the grammar tells; keys and names that stand there twice are left out."""
        text, begins = laid_out(pieces, randomness)
        wrong = first_wrong("F0", pieces)
        index = None if wrong is None else [*begins, len(text)][wrong]
        try:
            self.assertIs(is_filter(read_term(text)) or index is None, True)
            found = None
        except InvalidText as error:
            found = error.index
        if found in begins and found != index:
            number = begins.index(found)
            is_twice = pieces[number] in pieces[:number] and pieces[number - 1] in (";", "(")
            is_index = pieces[max(0, number - 2):number] == ["take", "("]
            self.assertTrue(is_twice or is_index, (text, found, index))
        else:
            self.assertEqual(found, index, text)
        return found is not None

    def test_tests_with_pieces_exchanged(self):
        pieces = [".a", "is", "yes", "list", "equal", "1", "at", "(", ")", ";", "and", "or", "not", "|", ",", "each", "if", "none"]
        rows = [write_test(test).split(" ") for test in TESTS if '"' not in write_test(test)]
        for row, number in itertools.product(rows[:40], range(30)):
            if number < len(row):
                for piece in pieces:
                    told = row[:number] + [piece] + row[number + 1:]
                    text = " ".join(told)
                    begins = [len(" ".join(told[:many])) + (many > 0) for many in range(len(told))]
                    wrong = first_wrong("T0", told)
                    if wrong is None:
                        self.assertIs(is_test(read_test(text)), True)
                    else:
                        self.wrong(read_test, text, [*begins, len(text)][wrong])


if __name__ == "__main__":
    unittest.main()

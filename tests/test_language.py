"""The rules of LANGUAGE.md that can be told from the text of a file alone."""

import ast
import builtins
import pathlib
import re
import unittest

PACKAGE = pathlib.Path(__file__).resolve().parent.parent / "sieveways"
FILES = sorted(PACKAGE.rglob("*.py"))
BUILTINS = set(
    "len range enumerate zip min max sum abs sorted reversed int str bool bytes list tuple dict set frozenset "
    "isinstance ord repr any all divmod map iter next Exception ValueError TypeError KeyError IndexError LookupError "
    "ZeroDivisionError ArithmeticError OverflowError RuntimeError NotImplementedError AttributeError StopIteration "
    "NotImplemented property staticmethod classmethod super object".split()
)
METHODS = set(
    "append clear copy count endswith extend find get index insert isalnum isalpha isdigit islower isspace isupper "
    "items join keys ljust lower lstrip partition pop remove replace reverse rfind rjust rpartition rsplit rstrip "
    "setdefault split splitlines startswith strip update upper values zfill bit_length title capitalize swapcase "
    "casefold center expandtabs removeprefix removesuffix rindex isascii isdecimal isnumeric istitle isidentifier "
    "isprintable translate add discard sort".split()
)
DUNDERS = set(
    "__init__ __eq__ __repr__ __str__ __len__ __enter__ __exit__ __call__ __iter__ __lt__ __le__ __gt__ __ge__ __ne__ "
    "__contains__ __getitem__ __setitem__ __bool__".split()
)
BARRED_NAMES = set("register mro elements open input law version_info with_traceback add_note".split())
BARRED_BINDINGS = set(
    "attrgetter breakpoint builtins compile copyright credits delattr dir eval exec exit gc getattr globals hasattr "
    "help id importlib license locals methodcaller os quit setattr super type vars sys".split()
)
BARRED_WORDS = re.compile(
    r"\b(typing|typing_extensions|enum|Enum|IntEnum|StrEnum|Flag|IntFlag|Generic|Protocol|ABC|ABCMeta|namedtuple|"
    r"NamedTuple|TypedDict|TYPE_CHECKING|abstractmethod)\b|dataclass|overload|contextmanager"
)
BARRED_ATTRIBUTES = set(
    "items keys values pop update append clear extend insert remove reverse setdefault sort args encode decode hex fromhex "
    "format format_map mro decode as_integer_ratio bit_count conjugate from_bytes is_integer to_bytes".split()
)
STATEMENTS = (
    ast.Assign, ast.AugAssign, ast.AnnAssign, ast.If, ast.While, ast.For, ast.Return, ast.Break, ast.Continue, ast.Pass,
    ast.Raise, ast.Assert, ast.Delete, ast.Nonlocal, ast.Match, ast.With, ast.Try, ast.Expr, ast.FunctionDef,
    ast.ClassDef, ast.ImportFrom,
)
TAKERS = ("list", "tuple", "dict", "sorted", "sum", "min", "max", "any", "all", "enumerate", "zip", "join")
LISTED = ("any", "all", "min", "max", "sum", "sorted")
MODULE_LEVEL = (ast.ImportFrom, ast.FunctionDef, ast.ClassDef, ast.Assign)


def name_of(node):
    """The name that is called."""
    return node.func.id if isinstance(node.func, ast.Name) else getattr(node.func, "attr", "")


def bound_names(tree):
    """All names that a file binds to variables, functions, classes, parameters and imports."""
    for node in ast.walk(tree):
        if isinstance(node, ast.Name) and isinstance(node.ctx, ast.Store):
            yield node.id
        elif isinstance(node, (ast.FunctionDef, ast.ClassDef)):
            yield node.name
        elif isinstance(node, ast.arg):
            yield node.arg
        elif isinstance(node, ast.alias):
            yield node.asname or node.name
        elif isinstance(node, ast.ExceptHandler) and node.name:
            yield node.name


def docstrings(tree):
    """The nodes of all docstrings."""
    return [
        node.body[0].value for node in ast.walk(tree)
        if isinstance(node, (ast.Module, ast.FunctionDef, ast.ClassDef)) and ast.get_docstring(node) is not None
    ]


class LanguageTest(unittest.TestCase):
    @classmethod
    def setUpClass(cls):
        cls.texts = {path: path.read_text(encoding="utf-8") for path in FILES}
        cls.trees = {path: ast.parse(text) for path, text in cls.texts.items()}
        cls.own_methods = {
            inner.name for tree in cls.trees.values() for node in ast.walk(tree) if isinstance(node, ast.ClassDef)
            for inner in node.body if isinstance(inner, ast.FunctionDef)
        }
        cls.generators = {
            node.name for tree in cls.trees.values() for node in ast.walk(tree) if isinstance(node, ast.FunctionDef)
            and any(isinstance(inner, (ast.Yield, ast.YieldFrom)) for inner in ast.walk(node))
        }

    def nodes(self):
        for path, tree in self.trees.items():
            for node in ast.walk(tree):
                yield f"{path.name}:{getattr(node, 'lineno', 0)}", node

    def test_files(self):
        self.assertIn(PACKAGE / "__init__.py", FILES)
        self.assertLessEqual(len(FILES), 100)
        for path in PACKAGE.rglob("*"):
            self.assertTrue(path.suffix == ".py" or "__pycache__" in path.parts, path)
        for path in FILES:
            self.assertRegex(path.name, r"^([a-z][a-z0-9_]*|__init__|__main__)\.py$")

    def test_sizes_and_characters(self):
        for path, text in self.texts.items():
            self.assertTrue(all(letter == "\n" or " " <= letter <= "~" for letter in text), path)
            self.assertLessEqual(len(text.splitlines()), 399, path)
            for line in text.splitlines():
                self.assertLessEqual(len(line), 120, (path, line))
        for where, node in self.nodes():
            if isinstance(node, ast.FunctionDef):
                self.assertLessEqual(node.end_lineno - node.lineno + 1, 40, where)

    def test_module_level(self):
        for path, tree in self.trees.items():
            for number, node in enumerate(tree.body):
                if number == 0 and isinstance(node, ast.Expr):
                    continue
                self.assertIsInstance(node, MODULE_LEVEL, path)
            names = [node.name for node in tree.body if isinstance(node, (ast.FunctionDef, ast.ClassDef))]
            names += [node.targets[0].id for node in tree.body if isinstance(node, ast.Assign)]
            names += [alias.name for node in tree.body if isinstance(node, ast.ImportFrom) for alias in node.names]
            self.assertEqual(len(names), len(set(names)), path)

    def test_imports(self):
        imported = {}
        for path, tree in self.trees.items():
            rows = [node for node in ast.walk(tree) if isinstance(node, (ast.Import, ast.ImportFrom))]
            self.assertEqual(len(rows), sum(isinstance(node, ast.ImportFrom) for node in tree.body), path)
            imported[path.stem] = []
            for node in rows:
                if node.module in ("heapq", "math", "itertools", "__future__"):
                    continue
                package, _, stem = node.module.partition(".")
                self.assertEqual([package, node.level], ["sieveways", 0], path)
                defined = self.trees[PACKAGE / f"{stem}.py"].body
                names = [inner.name for inner in defined if isinstance(inner, (ast.FunctionDef, ast.ClassDef))]
                names += [inner.targets[0].id for inner in defined if isinstance(inner, ast.Assign)]
                for alias in node.names:
                    self.assertIn(alias.name, names, path)
                imported[path.stem].append(stem)
        while imported:
            ends = [stem for stem, inner in imported.items() if not set(inner) & set(imported)]
            self.assertTrue(ends, f"these import from one another: {sorted(imported)}")
            for stem in ends:
                del imported[stem]

    def test_statements_and_signs(self):
        for where, node in self.nodes():
            if isinstance(node, ast.stmt):
                self.assertIsInstance(node, STATEMENTS, where)
            self.assertNotIsInstance(node, (ast.Div, ast.Await, ast.AsyncFunctionDef, ast.Global), where)
            if isinstance(node, ast.Constant):
                self.assertNotIsInstance(node.value, (float, complex), where)
            if isinstance(node, ast.Compare) and any(isinstance(sign, (ast.Is, ast.IsNot)) for sign in node.ops):
                self.assertIn(ast.unparse(node.comparators[0]), ("None", "True", "False", "self"), where)
            if isinstance(node, ast.BinOp) and isinstance(node.op, ast.Pow):
                self.assertIsInstance(node.right, ast.Constant, where)
                self.assertLessEqual(node.right.value, 64, where)

    def test_functions_and_classes(self):
        for where, node in self.nodes():
            if isinstance(node, ast.FunctionDef):
                if node.name.startswith("__"):
                    self.assertIn(node.name, DUNDERS, where)
                for decorator in node.decorator_list:
                    self.assertRegex(ast.unparse(decorator), r"^(property|staticmethod|classmethod|\w+\.setter)$", where)
            if isinstance(node, ast.ClassDef):
                self.assertEqual(node.decorator_list, [], where)
                names = [inner.name for inner in node.body if isinstance(inner, ast.FunctionDef)]
                self.assertEqual(len(names), len(set(names)), where)
            if isinstance(node, ast.ExceptHandler):
                self.assertIsNotNone(node.type, where)

    def test_names(self):
        for path, tree in self.trees.items():
            for name in bound_names(tree):
                self.assertRegex(name, r"^(_|_?[A-Za-z][A-Za-z0-9_]*|__\w+__)$", path)
                self.assertNotIn(name, BARRED_NAMES | BARRED_BINDINGS, path)
            methods = [
                inner for node in ast.walk(tree) if isinstance(node, ast.ClassDef) for inner in node.body
                if isinstance(inner, ast.FunctionDef)
            ]
            free = [inner.name for inner in methods]
            for name in bound_names(tree):
                self.assertTrue(name in free or name == "_" or not hasattr(builtins, name), (path, name))
            outer = [node.name for node in tree.body if isinstance(node, ast.ClassDef)]
            outer += [alias.name for node in tree.body if isinstance(node, ast.ImportFrom) for alias in node.names]
            for node in ast.walk(tree):
                if isinstance(node, ast.arg):
                    self.assertNotIn(node.arg, outer, path)
                elif isinstance(node, ast.Name) and isinstance(node.ctx, ast.Store):
                    self.assertNotIn(node.id, outer, path)
                elif isinstance(node, ast.Attribute):
                    self.assertNotIn(node.attr, BARRED_NAMES, path)

    def test_builtins_and_methods(self):
        for path, tree in self.trees.items():
            bound = set(bound_names(tree))
            for node in ast.walk(tree):
                if isinstance(node, ast.Name) and node.id not in bound:
                    self.assertIn(node.id, BUILTINS, path)
                if isinstance(node, ast.Call) and isinstance(node.func, ast.Attribute):
                    self.assertIn(node.func.attr, METHODS | self.own_methods | DUNDERS, path)

    def test_strings(self):
        for path, tree in self.trees.items():
            told = docstrings(tree)
            for node in ast.walk(tree):
                if isinstance(node, ast.Constant) and isinstance(node.value, str):
                    self.assertNotIn("%", node.value, path)
                    if node not in told:
                        self.assertIsNone(BARRED_WORDS.search(node.value), path)
                        self.assertNotRegex(node.value, r"^type$|^__.*[^_]__$|\._$", path)

    def test_sets_and_generators(self):
        for path, tree in self.trees.items():
            parents = {inner: node for node in ast.walk(tree) for inner in ast.iter_child_nodes(node)}
            for node in ast.walk(tree):
                if isinstance(node, (ast.Call, ast.Attribute)) and isinstance(parents[node], ast.Attribute):
                    continue
                if isinstance(node, ast.Call) and name_of(node) in self.generators:
                    self.check_taken_at_once(path, node, parents[node])
                if isinstance(node, ast.GeneratorExp):
                    self.assertIn(name_of(parents[node]), set(TAKERS) - set(LISTED), (path, node.lineno))

    def check_taken_at_once(self, path, node, parent):
        """A generator is iterated where it is called."""
        taken = isinstance(parent, (ast.For, ast.comprehension)) and parent.iter is node
        taken = taken or isinstance(parent, ast.YieldFrom)
        taken = taken or isinstance(parent, ast.Call) and name_of(parent) in TAKERS
        self.assertTrue(taken, (path, node.lineno))

    def test_generators_have_names_of_their_own(self):
        # A Machine has the methods of a Run, so two generators are called rest; no other function is called so.
        for where, node in self.nodes():
            if isinstance(node, ast.FunctionDef) and node.name in self.generators:
                self.assertTrue(any(isinstance(inner, (ast.Yield, ast.YieldFrom)) for inner in ast.walk(node)), where)
        names = [node.name for _, node in self.nodes() if isinstance(node, ast.FunctionDef)]
        self.assertEqual([name for name in sorted(self.generators) if names.count(name) > 1], ["rest"])

    def test_properties_and_attributes(self):
        classes = [node for _, node in self.nodes() if isinstance(node, ast.ClassDef)]
        methods = [inner for node in classes for inner in node.body if isinstance(inner, ast.FunctionDef)]
        properties = {inner.name for inner in methods if "property" in [ast.unparse(told) for told in inner.decorator_list]}
        plain = {inner.name for inner in methods if not inner.decorator_list}
        self.assertEqual(properties & plain, set())
        for where, node in self.nodes():
            if isinstance(node, ast.Attribute) and not isinstance(node.ctx, ast.Load):
                self.assertNotIn(node.attr, properties | BARRED_ATTRIBUTES, where)
            if isinstance(node, ast.FunctionDef):
                self.assertNotIn(node.name, {"keys", "items", "values"}, where)
        for node in classes:
            own = {inner.name for inner in node.body if isinstance(inner, ast.FunctionDef)}
            for inner in ast.walk(node):
                if isinstance(inner, ast.Attribute) and not isinstance(inner.ctx, ast.Load):
                    self.assertNotIn(inner.attr, own, node.name)


if __name__ == "__main__":
    unittest.main()

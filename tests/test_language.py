"""The package keeps to its part of Python: the rules that can be seen from the code alone."""

import ast
import builtins
import pathlib
import re
import unittest

PACKAGE = pathlib.Path(__file__).resolve().parent.parent / "cutrestore"
FILES = sorted(PACKAGE.glob("*.py"))

OWN_NAMES = set(
    "len range enumerate zip min max sum abs sorted reversed int str bool bytes list tuple dict set frozenset "
    "isinstance ord repr any all divmod Exception ValueError TypeError KeyError IndexError LookupError "
    "ZeroDivisionError ArithmeticError OverflowError RuntimeError NotImplementedError AttributeError "
    "StopIteration".split()
)
OWN_METHODS = set(
    "append clear copy count endswith extend find get index insert isalnum isalpha isdigit islower isspace isupper "
    "items join keys ljust lower lstrip partition pop remove replace reverse rfind rjust rpartition rsplit rstrip "
    "setdefault split splitlines startswith strip update upper values zfill bit_length title capitalize swapcase "
    "casefold center removeprefix removesuffix rindex isascii isdecimal add discard sort".split()
)
WALKED = {"zip", "enumerate", "reversed", "range"}
WALKERS = {"list", "tuple", "dict", "sorted", "sum", "any", "all", "enumerate", "zip", "min", "max"}
UNDERSCORED = {"__init__", "__eq__", "__repr__", "__str__", "__len__"}
UNSAID = re.compile(
    r"\b(type|typing|typing_extensions|enum|Enum|IntEnum|StrEnum|Flag|IntFlag|Generic|Protocol|ABC|ABCMeta|"
    r"namedtuple|NamedTuple|TypedDict|TYPE_CHECKING|abstractmethod)\b|dataclass|overload|contextmanager"
)
UNUSED = set(
    "register mro elements open input version_info with_traceback add_note attrgetter breakpoint builtins compile "
    "copyright credits delattr dir eval exec exit gc getattr globals hasattr help id importlib license locals "
    "methodcaller os quit setattr super type vars sys format format_map args".split()
)
NOT_THERE = (
    ast.With, ast.Match, ast.Global, ast.Nonlocal, ast.Yield, ast.YieldFrom, ast.Await, ast.AsyncFor, ast.AsyncWith,
    ast.AsyncFunctionDef, ast.GeneratorExp, ast.NamedExpr, ast.Div, ast.MatMult, ast.Import,
)
TOP_ROWS = (ast.ImportFrom, ast.FunctionDef, ast.ClassDef, ast.Assign)


def is_docstring(node):
    return isinstance(node, ast.Expr) and isinstance(node.value, ast.Constant) and isinstance(node.value.value, str)


def names_given(tree):
    """Every name that a file binds, by whatever row."""
    for node in ast.walk(tree):
        if isinstance(node, (ast.FunctionDef, ast.ClassDef)):
            yield node.name
        elif isinstance(node, ast.arg):
            yield node.arg
        elif isinstance(node, ast.Name) and isinstance(node.ctx, ast.Store):
            yield node.id
        elif isinstance(node, ast.Attribute):
            yield node.attr
        elif isinstance(node, ast.alias):
            yield node.name


def names_at_top(tree):
    names = []
    for node in tree.body:
        if isinstance(node, (ast.FunctionDef, ast.ClassDef)):
            names.append(node.name)
        elif isinstance(node, ast.ImportFrom):
            names += [alias.asname or alias.name for alias in node.names]
        elif isinstance(node, ast.Assign):
            names += [target.id for target in node.targets]
    return names


class LanguageTest(unittest.TestCase):
    @classmethod
    def setUpClass(cls):
        cls.texts = {path.stem: path.read_text(encoding="utf-8") for path in FILES}
        cls.trees = {name: ast.parse(text) for name, text in cls.texts.items()}

    def walk(self, kind):
        for name, tree in self.trees.items():
            for node in ast.walk(tree):
                if isinstance(node, kind):
                    yield name, node

    def test_files(self):
        self.assertIn("__init__", self.trees)
        for path in PACKAGE.iterdir():
            if path.name != "__pycache__":
                self.assertRegex(path.name, r"\A([a-z][a-z0-9_]*|__init__|__main__)\.py\Z")
                self.assertNotIn(path.stem, set(dir(builtins)) | UNUSED)

    def test_signs_and_sizes(self):
        for name, text in self.texts.items():
            self.assertRegex(text, r"\A[\n -~]*\Z", name)
            self.assertLessEqual(len(text.split("\n")), 400, name)
            self.assertLessEqual(max(len(row) for row in text.split("\n")), 120, name)
            self.assertIsNone(UNSAID.search(text), name)
        for name, node in self.walk(ast.FunctionDef):
            self.assertLessEqual(node.end_lineno - node.lineno + 1, 40, (name, node.name))

    def test_imports(self):
        drawn = {}
        for name, node in self.walk(ast.ImportFrom):
            self.assertEqual(node.level, 0)
            self.assertRegex(node.module, r"\Acutrestore\.[a-z]+\Z")
            source = node.module.split(".")[1]
            drawn.setdefault(name, set()).add(source)
            for alias in node.names:
                own = [n for n in names_at_top(self.trees[source]) if n == alias.name]
                self.assertEqual(own, [alias.name], (name, alias.name))
        done = set()
        while len(done) < len(self.trees):
            ready = [name for name in self.trees if name not in done and drawn.get(name, set()) <= done]
            self.assertTrue(ready, "files draw from one another")
            done.update(ready)

    def test_tops(self):
        for name, tree in self.trees.items():
            names = names_at_top(tree)
            self.assertEqual(len(names), len(set(names)), name)
            for at, node in enumerate(tree.body):
                self.assertTrue(isinstance(node, TOP_ROWS) or (at == 0 and is_docstring(node)), (name, node.lineno))

    def test_classes(self):
        for name, node in self.walk(ast.ClassDef):
            self.assertLessEqual(len(node.bases), 1)
            self.assertEqual((node.keywords, node.decorator_list), ([], []))
            methods = [row.name for row in node.body if isinstance(row, ast.FunctionDef)]
            self.assertEqual(len(methods), len(set(methods)), (name, node.name))
            for row in node.body:
                self.assertTrue(isinstance(row, ast.FunctionDef) or is_docstring(row), (name, row.lineno))

    def test_no_name_is_a_method_and_a_value(self):
        methods, values = set(), set()
        for name, node in self.walk(ast.ClassDef):
            methods |= {row.name for row in node.body if isinstance(row, ast.FunctionDef)}
        for name, node in self.walk(ast.Attribute):
            if isinstance(node.ctx, ast.Store):
                values.add(node.attr)
        self.assertEqual(methods & values, set())
        for name, node in self.walk(ast.Attribute):
            self.assertIn(node.attr, methods | values | OWN_METHODS, (name, node.lineno))

    def test_names(self):
        for name, tree in self.trees.items():
            for given in names_given(tree):
                if given not in UNDERSCORED:
                    self.assertRegex(given, r"\A[A-Za-z][A-Za-z0-9_]*\Z", name)
                self.assertNotIn(given, UNUSED, name)
            top = set(names_at_top(tree))
            for node in ast.walk(tree):
                given = node.arg if isinstance(node, ast.arg) else None
                if isinstance(node, ast.Name) and isinstance(node.ctx, ast.Store) and node.id not in top:
                    given = node.id
                if given is not None:
                    self.assertNotIn(given, top, name)
                    self.assertFalse(given in dir(builtins), (name, given))
                if isinstance(node, ast.Name) and node.id in dir(builtins):
                    self.assertIn(node.id, OWN_NAMES, name)

    def test_rows(self):
        for name, node in self.walk(NOT_THERE):
            self.fail((name, node))
        for name, node in self.walk((ast.For, ast.While)):
            self.assertEqual(node.orelse, [], (name, node.lineno))
        for name, node in self.walk(ast.FunctionDef):
            self.assertEqual(node.decorator_list, [])
            self.assertEqual((node.args.vararg, node.args.kwarg, node.args.posonlyargs), (None, None, []))
        for name, node in self.walk(ast.Starred):
            self.assertIsInstance(node.ctx, ast.Store, (name, node.lineno))
        for name, node in self.walk(ast.ExceptHandler):
            self.assertIsNotNone(node.type, (name, node.lineno))

    def test_what_is_walked_is_walked_at_once(self):
        for name, tree in self.trees.items():
            walked = [node.iter for node in ast.walk(tree) if isinstance(node, (ast.For, ast.comprehension))]
            for node in ast.walk(tree):
                if isinstance(node, ast.Call) and isinstance(node.func, ast.Name) and node.func.id in WALKERS:
                    walked += node.args
            for node in ast.walk(tree):
                if isinstance(node, ast.Call) and isinstance(node.func, ast.Name) and node.func.id in WALKED:
                    self.assertIn(node, walked, (name, node.lineno))

    def test_written_values(self):
        for name, node in self.walk(ast.Constant):
            self.assertNotIsInstance(node.value, (float, complex), name)
            if isinstance(node.value, str):
                self.assertNotIn("%", node.value, (name, node.lineno))
        for name, text in self.texts.items():
            self.assertIsNone(re.search(r"\\[^nt\\'\"]", text), name)

    def test_is_stands_beside_none_true_and_false(self):
        for name, node in self.walk(ast.Compare):
            for sign, right in zip(node.ops, node.comparators):
                if isinstance(sign, (ast.Is, ast.IsNot)):
                    self.assertIsInstance(right, ast.Constant)
                    self.assertIn(right.value, (None, True, False), (name, node.lineno))

    def test_powers_are_written(self):
        for name, node in self.walk(ast.BinOp):
            if isinstance(node.op, ast.Pow):
                self.assertIsInstance(node.right, ast.Constant, (name, node.lineno))
                self.assertIn(node.right.value, range(65), (name, node.lineno))


if __name__ == "__main__":
    unittest.main()

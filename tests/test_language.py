"""The rules of the language that a look at the files can tell."""

import ast
import builtins
import pathlib
import re
import unittest
import warnings

PACKAGE = pathlib.Path(__file__).resolve().parent.parent / "rankloop"
BUILTINS = set(
    "len range enumerate zip min max sum abs sorted reversed int str bool bytes list tuple dict set frozenset isinstance "
    "ord repr any all divmod iter next super property staticmethod classmethod object float Exception ValueError TypeError "
    "KeyError IndexError LookupError ZeroDivisionError ArithmeticError OverflowError RuntimeError NotImplementedError "
    "AttributeError StopIteration NotImplemented".split()
)
BARRED_WORDS = set(
    "type typing typing_extensions enum Enum IntEnum StrEnum Flag IntFlag Generic Protocol ABC ABCMeta namedtuple "
    "NamedTuple TypedDict TYPE_CHECKING abstractmethod".split()
)
BARRED_NAMES = set("register mro elements open input law version_info with_traceback add_note format format_map".split())
BARRED_NODES = (
    ast.Global, ast.AsyncFunctionDef, ast.AsyncFor, ast.AsyncWith, ast.Await, ast.Import, ast.Div, ast.Try, ast.TryStar
)
DOUBLE = re.compile(r"__[a-z]+__$")


def sources():
    return [(path, path.read_text(encoding="utf-8")) for path in sorted(PACKAGE.rglob("*.py"))]


def trees():
    return [(path.name, ast.parse(text)) for path, text in sources()]


def nodes(kind):
    return [(name, node) for name, tree in trees() for node in ast.walk(tree) if isinstance(node, kind)]


class Language(unittest.TestCase):
    def test_only_files_of_the_package(self):
        for path in PACKAGE.rglob("*"):
            if path.name != "__pycache__" and path.suffix != ".pyc":
                self.assertRegex(path.name, r"^[a-z0-9_]+\.py$")

    def test_signs_and_sizes(self):
        for path, text in sources():
            rows = text.split("\n")
            self.assertLessEqual(len(rows), 399, path)
            self.assertEqual([sign for sign in text if sign != "\n" and not " " <= sign <= "~"], [], path)
            self.assertEqual([row for row in rows if len(row) > 120], [], path)

    def test_no_barred_words(self):
        for path, text in sources():
            self.assertEqual(BARRED_WORDS & set(re.findall(r"\w+", text)), set(), path)
            self.assertNotRegex(text, "dataclass|overload|contextmanager")

    def test_no_warnings(self):
        with warnings.catch_warnings():
            warnings.simplefilter("error")
            for path, text in sources():
                compile(text, str(path), "exec")

    def test_functions_are_short(self):
        for name, node in nodes(ast.FunctionDef):
            self.assertLessEqual(node.end_lineno - node.lineno + 1, 40, (name, node.name))

    def test_imports_are_of_the_package(self):
        for name, node in nodes(ast.ImportFrom):
            self.assertEqual(node.level, 0, name)
            self.assertTrue(node.module.startswith("rankloop."), (name, node.module))
            self.assertNotIn("*", [alias.name for alias in node.names])

    def test_module_level(self):
        for name, tree in trees():
            for row in tree.body:
                plain = isinstance(row, (ast.ImportFrom, ast.FunctionDef, ast.ClassDef, ast.Assign))
                told = isinstance(row, ast.Expr) and isinstance(row.value, ast.Constant)
                self.assertTrue(plain or told, (name, row.lineno))

    def test_no_barred_statements(self):
        for name, node in nodes(BARRED_NODES):
            self.assertIsInstance(node, ast.Try, (name, node))
            for handler in node.handlers:
                self.assertIsNotNone(handler.type, (name, node.lineno))

    def test_no_floats_and_no_percent_signs(self):
        for name, node in nodes(ast.Constant):
            self.assertNotIsInstance(node.value, (float, complex), (name, node.lineno))
            if isinstance(node.value, str):
                self.assertNotIn("%", node.value, (name, node.lineno))

    def test_names(self):
        for name, node in nodes(ast.Name):
            if not DOUBLE.match(node.id):
                self.assertFalse(node.id.startswith("_"), (name, node.lineno))
            self.assertNotIn(node.id, BARRED_NAMES, (name, node.lineno))
            if hasattr(builtins, node.id) and not DOUBLE.match(node.id):
                self.assertIn(node.id, BUILTINS, (name, node.lineno))
                self.assertIsInstance(node.ctx, ast.Load, (name, node.lineno))

    def test_names_of_functions_and_arguments(self):
        for name, node in nodes((ast.FunctionDef, ast.ClassDef, ast.arg)):
            told = node.arg if isinstance(node, ast.arg) else node.name
            if not DOUBLE.match(told):
                self.assertFalse(told.startswith("_"), (name, told))
                self.assertNotIn(told, BARRED_NAMES | BUILTINS, (name, told))

    def test_is_only_of_none_and_truths(self):
        for name, node in nodes(ast.Compare):
            for sign, right in zip(node.ops, node.comparators):
                if isinstance(sign, (ast.Is, ast.IsNot)):
                    self.assertIsInstance(right, ast.Constant, (name, node.lineno))
                    self.assertTrue(right.value is None or isinstance(right.value, bool), (name, node.lineno))


if __name__ == "__main__":
    unittest.main()

"""The rules of the language that a look at the files can tell."""

import ast
import builtins
import pathlib
import re
import unittest
import warnings

PACKAGE = pathlib.Path(__file__).resolve().parent.parent / "rankloop"
BUILTINS = set(
    "len range enumerate zip min max sum abs sorted reversed int str bool bytes list tuple dict set frozenset isinstance "
    "ord repr any all divmod iter next super property staticmethod classmethod object float Exception ValueError TypeError "
    "KeyError IndexError LookupError ZeroDivisionError ArithmeticError OverflowError RuntimeError NotImplementedError "
    "AttributeError StopIteration NotImplemented".split()
)
BARRED_WORDS = set(
    "type typing typing_extensions enum Enum IntEnum StrEnum Flag IntFlag Generic Protocol ABC ABCMeta namedtuple "
    "NamedTuple TypedDict TYPE_CHECKING abstractmethod".split()
)
BARRED_NAMES = set(
    "register mro elements open input law version_info with_traceback add_note format format_map attrgetter breakpoint "
    "builtins compile copyright credits delattr dir eval exec exit gc getattr globals hasattr help id importlib license "
    "locals methodcaller os quit setattr type vars sys".split()
)
BARRED_NODES = (
    ast.Global, ast.AsyncFunctionDef, ast.AsyncFor, ast.AsyncWith, ast.Await, ast.Import, ast.Div, ast.Try, ast.TryStar
)
# Loops compare and have a length, so these take lists.
LISTS_ONLY = ("any", "all", "min", "max", "sum", "sorted")
PLAIN_NODES = (ast.Constant, ast.Tuple, ast.List, ast.Dict, ast.Name, ast.UnaryOp, ast.USub, ast.Load)
BUILTIN_METHODS = set(
    "append clear count endswith extend find get index insert isalnum isalpha isdigit islower isspace isupper items join "
    "keys lower pop remove removeprefix removesuffix replace reverse setdefault split splitlines startswith strip update "
    "upper values isascii".split()
)
DOUBLE = re.compile(r"__[a-z]+__$")


def sources():
    return [(path, path.read_text(encoding="utf-8")) for path in sorted(PACKAGE.rglob("*.py"))]


def trees():
    return [(path.name, ast.parse(text)) for path, text in sources()]


def names_bound(tree):
    """The functions, classes and values that a file defines."""
    told = [row.name for row in tree.body if isinstance(row, (ast.FunctionDef, ast.ClassDef))]
    return told + [row.targets[0].id for row in tree.body if isinstance(row, ast.Assign)]


def imported_names(row):
    return [alias.name for alias in row.names] if isinstance(row, ast.ImportFrom) else []


def imported_files(tree):
    return {row.module.removeprefix("rankloop.") + ".py" for row in tree.body if isinstance(row, ast.ImportFrom)}


def nodes(kind):
    return [(name, node) for name, tree in trees() for node in ast.walk(tree) if isinstance(node, kind)]


TAKERS = ("list", "tuple", "dict", "sorted", "sum", "any", "all", "enumerate", "zip", "min", "max")


def called(node):
    """What a call calls: a name, or a method with a dot ahead; None of what is no call."""
    if not isinstance(node, ast.Call):
        return None
    if isinstance(node.func, ast.Attribute):
        return "." + node.func.attr
    return getattr(node.func, "id", None)


class Language(unittest.TestCase):
    def test_only_files_of_the_package(self):
        for path in PACKAGE.rglob("*"):
            if path.name != "__pycache__" and path.suffix != ".pyc":
                self.assertRegex(path.name, r"^[a-z0-9_]+\.py$")

    def test_signs_and_sizes(self):
        for path, text in sources():
            rows = text.split("\n")
            self.assertLessEqual(len(rows), 399, path)
            self.assertEqual([sign for sign in text if sign != "\n" and not " " <= sign <= "~"], [], path)
            self.assertEqual([row for row in rows if len(row) > 120], [], path)

    def test_no_barred_words(self):
        for path, text in sources():
            self.assertEqual(BARRED_WORDS & set(re.findall(r"\w+", text)), set(), path)
            self.assertNotRegex(text, "dataclass|overload|contextmanager")

    def test_no_warnings(self):
        with warnings.catch_warnings():
            warnings.simplefilter("error")
            for path, text in sources():
                compile(text, str(path), "exec")

    def test_functions_are_short(self):
        for name, node in nodes(ast.FunctionDef):
            self.assertLessEqual(node.end_lineno - node.lineno + 1, 40, (name, node.name))

    def test_imports_are_of_the_package(self):
        for name, node in nodes(ast.ImportFrom):
            self.assertEqual(node.level, 0, name)
            self.assertTrue(node.module.startswith("rankloop."), (name, node.module))
            self.assertNotIn("*", [alias.name for alias in node.names])

    def test_module_level(self):
        for name, tree in trees():
            for row in tree.body:
                plain = isinstance(row, (ast.ImportFrom, ast.FunctionDef, ast.ClassDef, ast.Assign))
                told = isinstance(row, ast.Expr) and isinstance(row.value, ast.Constant)
                self.assertTrue(plain or told, (name, row.lineno))

    def test_no_barred_statements(self):
        for name, node in nodes(BARRED_NODES):
            self.assertIsInstance(node, ast.Try, (name, node))
            for handler in node.handlers:
                self.assertIsNotNone(handler.type, (name, node.lineno))

    def test_no_floats_and_no_percent_signs(self):
        for name, node in nodes(ast.Constant):
            self.assertNotIsInstance(node.value, (float, complex), (name, node.lineno))
            if isinstance(node.value, str):
                self.assertNotIn("%", node.value, (name, node.lineno))

    def test_names(self):
        for name, node in nodes(ast.Name):
            if not DOUBLE.match(node.id):
                self.assertFalse(node.id.startswith("_"), (name, node.lineno))
            self.assertNotIn(node.id, BARRED_NAMES, (name, node.lineno))
            if hasattr(builtins, node.id) and not DOUBLE.match(node.id):
                self.assertIn(node.id, BUILTINS, (name, node.lineno))
                self.assertIsInstance(node.ctx, ast.Load, (name, node.lineno))

    def test_names_of_functions_and_arguments(self):
        for name, node in nodes((ast.FunctionDef, ast.ClassDef, ast.arg)):
            told = node.arg if isinstance(node, ast.arg) else node.name
            if not DOUBLE.match(told):
                self.assertFalse(told.startswith("_"), (name, told))
                self.assertNotIn(told, BARRED_NAMES | BUILTINS, (name, told))
                self.assertFalse(hasattr(builtins, told), (name, told))

    def test_is_only_of_none_and_truths(self):
        for name, node in nodes(ast.Compare):
            for sign, right in zip(node.ops, node.comparators):
                if isinstance(sign, (ast.Is, ast.IsNot)):
                    self.assertIsInstance(right, ast.Constant, (name, node.lineno))
                    self.assertTrue(right.value is None or isinstance(right.value, bool), (name, node.lineno))

    def test_imports_name_the_defining_file(self):
        bound = {name: names_bound(tree) for name, tree in trees()}
        for name, node in nodes(ast.ImportFrom):
            file = node.module.removeprefix("rankloop.") + ".py"
            for alias in node.names:
                self.assertIn(alias.name, bound[file], (name, alias.name))
                self.assertIsNone(alias.asname, (name, alias.name))

    def test_no_rings_of_imports(self):
        needs = {name: imported_files(tree) for name, tree in trees()}
        while needs:
            free = [name for name in needs if not needs[name] & set(needs)]
            self.assertNotEqual(free, [], needs)
            for name in free:
                del needs[name]

    def test_each_name_is_bound_once(self):
        for name, tree in trees():
            bound = names_bound(tree) + [alias for row in tree.body for alias in imported_names(row)]
            self.assertEqual(len(bound), len(set(bound)), name)

    def test_local_names_are_no_imports_or_classes(self):
        for name, tree in trees():
            barred = {row.name for row in tree.body if isinstance(row, ast.ClassDef)}
            barred |= {alias for row in tree.body for alias in imported_names(row)}
            for node in ast.walk(tree):
                if isinstance(node, ast.arg):
                    self.assertNotIn(node.arg, barred, (name, node.lineno))
                if isinstance(node, ast.Name) and isinstance(node.ctx, ast.Store):
                    self.assertNotIn(node.id, barred, (name, node.lineno))

    def test_methods_and_attributes(self):
        methods = {row.name for _, node in nodes(ast.ClassDef) for row in node.body if isinstance(row, ast.FunctionDef)}
        stored = {node.attr for _, node in nodes(ast.Attribute) if isinstance(node.ctx, ast.Store)}
        self.assertEqual(methods & stored, set())
        self.assertEqual(stored & BUILTIN_METHODS, set())
        for name, node in nodes(ast.Attribute):
            self.assertIn(node.attr, methods | stored | BUILTIN_METHODS | {"__init__"}, (name, node.lineno))

    def test_attributes_are_assigned_through_a_name(self):
        for name, node in nodes(ast.Attribute):
            if isinstance(node.ctx, ast.Store):
                self.assertIsInstance(node.value, ast.Name, (name, node.lineno))

    def test_calls(self):
        for name, node in nodes(ast.Call):
            for part in node.args:
                if isinstance(part, ast.Starred):
                    self.assertIsInstance(part.value, (ast.Name, ast.Attribute), (name, node.lineno))
                if isinstance(node.func, ast.Name) and node.func.id in LISTS_ONLY:
                    self.assertNotIsInstance(part, ast.GeneratorExp, (name, node.lineno))
            self.assertIsInstance(node.func, (ast.Name, ast.Attribute), (name, node.lineno))
            if isinstance(node.func, ast.Attribute):
                self.assertNotEqual(node.func.attr, "sort", (name, node.lineno))

    def test_iterated_at_once(self):
        for name, tree in trees():
            around = {child: node for node in ast.walk(tree) for child in ast.iter_child_nodes(node)}
            for node in ast.walk(tree):
                self.assertNotIsInstance(node, (ast.GeneratorExp, ast.Yield, ast.YieldFrom), name)
                if called(node) in ("zip", "enumerate", "reversed", "range", ".items", ".keys", ".values"):
                    taken = isinstance(around[node], (ast.For, ast.comprehension)) or called(around[node]) in TAKERS
                    self.assertTrue(taken, (name, node.lineno))

    def test_sets(self):
        for name, tree in trees():
            around = {child: node for node in ast.walk(tree) for child in ast.iter_child_nodes(node)}
            for node in ast.walk(tree):
                self.assertNotIsInstance(node, (ast.Set, ast.SetComp), name)
                if called(node) == "set":
                    self.assertIn(called(around[node]), ("len", "sorted"), (name, node.lineno))

    def test_what_a_finally_has(self):
        for name, node in nodes(ast.Try):
            for row in node.finalbody:
                self.assertIsInstance(row, (ast.Assign, ast.AugAssign), (name, row.lineno))
                self.assertIsInstance(row.value, (ast.Name, ast.Constant), (name, row.lineno))

    def test_tables(self):
        for name, tree in trees():
            above = []
            for row in tree.body:
                if isinstance(row, ast.FunctionDef):
                    above.append(row.name)
                if isinstance(row, ast.Assign):
                    self.assertEqual(len(row.targets), 1, (name, row.lineno))
                    for node in ast.walk(row.value):
                        self.assertIsInstance(node, PLAIN_NODES, (name, row.lineno))
                        if isinstance(node, ast.Name):
                            self.assertIn(node.id, above, (name, row.lineno))

    def test_shown_methods_change_nothing(self):
        for name, node in nodes(ast.FunctionDef):
            if node.name in ("__eq__", "__str__", "__len__"):
                self.assertIsInstance(node.body[-1], ast.Return, (name, node.name))
                for inner in ast.walk(node):
                    self.assertNotIsInstance(inner, (ast.Assign, ast.AugAssign, ast.Delete), (name, node.name))


if __name__ == "__main__":
    unittest.main()

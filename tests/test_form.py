"""The form of the package's files, as far as a plain look at them can tell it."""

import ast
import builtins
import pathlib
import re
import unittest
import warnings

PACKAGE = pathlib.Path(__file__).resolve().parent.parent / "wallplan"

OWN_NAMES = set(
    "len range enumerate zip min max sum abs sorted reversed int str bool bytes list tuple dict set isinstance ord repr"
    " any all divmod Exception ValueError TypeError KeyError IndexError LookupError ZeroDivisionError ArithmeticError"
    " OverflowError RuntimeError NotImplementedError AttributeError StopIteration".split()
)
METHODS = set(
    "append clear copy count endswith extend find get index insert isalnum isalpha isdigit islower isspace isupper items"
    " join keys ljust lower lstrip partition pop remove replace reverse rfind rjust rpartition rsplit rstrip setdefault"
    " split splitlines startswith strip update upper values zfill bit_length sort add discard __init__".split()
)
BARRED_WORDS = set(
    "type typing typing_extensions enum Enum IntEnum StrEnum Flag IntFlag Generic Protocol ABC ABCMeta namedtuple"
    " NamedTuple TypedDict TYPE_CHECKING abstractmethod".split()
)
BARRED_NAMES = set(
    "register mro elements open input version_info with_traceback add_note attrgetter breakpoint builtins compile"
    " copyright credits delattr dir eval exec exit gc getattr globals hasattr help id importlib license locals"
    " methodcaller os quit setattr super type vars sys chr frozenset print".split()
)
NODES = set(
    "Module Expr Constant ImportFrom alias FunctionDef arguments arg Return ClassDef Assign AugAssign If While For Break"
    " Continue Pass Raise Try ExceptHandler Assert Delete Name Load Store Del Attribute Subscript Slice Tuple List Dict"
    " Set ListComp DictComp SetComp comprehension BinOp Add Sub Mult FloorDiv Mod Pow BitAnd BitOr BitXor LShift RShift"
    " UnaryOp USub Not Invert BoolOp And Or Compare Eq NotEq Lt LtE Gt GtE Is IsNot In NotIn IfExp Call keyword Lambda"
    " JoinedStr FormattedValue Starred".split()
)


def files():
    return sorted(PACKAGE.glob("*.py"))


def trees():
    return [(path.name, ast.parse(path.read_text())) for path in files()]


def bound_names(tree):
    """All names that a file gives anywhere."""
    found = set()
    for node in ast.walk(tree):
        if isinstance(node, (ast.FunctionDef, ast.ClassDef)):
            found.add(node.name)
        elif isinstance(node, ast.arg):
            found.add(node.arg)
        elif isinstance(node, ast.Name) and isinstance(node.ctx, ast.Store):
            found.add(node.id)
        elif isinstance(node, ast.alias):
            found.add(node.asname or node.name)
        elif isinstance(node, ast.ExceptHandler) and node.name:
            found.add(node.name)
    return found


def fields(package):
    """All values that methods give to their object."""
    return {
        node.attr for _, tree in package for node in ast.walk(tree)
        if isinstance(node, ast.Attribute) and isinstance(node.ctx, ast.Store)
    }


def methods(package):
    """The names of all methods of the package's own classes."""
    return {
        node.name for _, tree in package for kind in tree.body if isinstance(kind, ast.ClassDef)
        for node in kind.body if isinstance(node, ast.FunctionDef)
    }


class FormTest(unittest.TestCase):
    def test_the_package_holds_plain_files_alone(self):
        names = [path.name for path in PACKAGE.iterdir() if path.name != "__pycache__"]
        self.assertIn("__init__.py", names)
        for name in names:
            self.assertRegex(name, r"^(__init__|__main__|[a-z][a-z0-9_]*)\.py$")

    def test_signs_and_sizes(self):
        for path in files():
            text = path.read_text()
            self.assertRegex(text, r"^[ -~\n]*$")
            lines = text.split("\n")
            self.assertLessEqual(len(lines) - 1, 400, path.name)
            self.assertLessEqual(max(map(len, lines)), 120, path.name)
        for name, tree in trees():
            for node in ast.walk(tree):
                if isinstance(node, ast.FunctionDef):
                    self.assertLessEqual(node.end_lineno - node.lineno + 1, 40, (name, node.name))

    def test_words(self):
        for path in files():
            words = set(re.findall(r"\w+", path.read_text()))
            self.assertEqual(words & BARRED_WORDS, set(), path.name)
            for part in ("dataclass", "overload", "contextmanager"):
                self.assertNotIn(part, path.read_text())

    def test_only_plain_forms_stand(self):
        for name, tree in trees():
            for node in ast.walk(tree):
                self.assertIn(type(node).__name__, NODES, (name, getattr(node, "lineno", None)))
                if isinstance(node, (ast.FunctionDef, ast.ClassDef)):
                    self.assertEqual(node.decorator_list, [])
                if isinstance(node, (ast.For, ast.While)):
                    self.assertEqual(node.orelse, [])
                if isinstance(node, ast.Constant):
                    self.assertNotIsInstance(node.value, (float, complex))
                    if isinstance(node.value, str):
                        self.assertNotIn("%", node.value)
                if isinstance(node, ast.Compare) and any(isinstance(op, (ast.Is, ast.IsNot)) for op in node.ops):
                    self.assertTrue(all(isinstance(side, ast.Constant) for side in node.comparators), name)

    def test_names(self):
        known = METHODS | fields(trees()) | methods(trees())
        for name, tree in trees():
            bound = bound_names(tree)
            for word in bound - {"__init__", "__all__", "__version__"}:
                self.assertRegex(word, r"^[A-Za-z][A-Za-z0-9_]*$", name)
            self.assertEqual(bound & BARRED_NAMES, set(), name)
            self.assertEqual({word for word in bound if word in vars(builtins)}, set(), name)
            for node in ast.walk(tree):
                if isinstance(node, ast.Name):
                    self.assertIn(node.id, bound | OWN_NAMES, name)
                elif isinstance(node, ast.Attribute):
                    self.assertIn(node.attr, known, name)

    def test_no_local_is_called_like_an_import_or_a_class(self):
        for name, tree in trees():
            top = {row.asname or row.name for node in tree.body if isinstance(node, ast.ImportFrom) for row in node.names}
            top |= {node.name for node in tree.body if isinstance(node, ast.ClassDef)}
            for node in ast.walk(tree):
                if isinstance(node, ast.FunctionDef):
                    inner = bound_names(node) - ({node.name} if node in tree.body else set())
                    self.assertEqual(inner & top, set(), (name, node.name))

    def test_imports(self):
        defined = {
            name[:-3]: {node.name for node in tree.body if isinstance(node, (ast.FunctionDef, ast.ClassDef))}
            | {t.id for node in tree.body if isinstance(node, ast.Assign) for t in node.targets}
            for name, tree in trees()
        }
        draws = {}
        for name, tree in trees():
            draws[name[:-3]] = set()
            for node in ast.walk(tree):
                if isinstance(node, ast.ImportFrom):
                    self.assertIn(node, tree.body)
                    self.assertEqual(node.level, 0)
                    package, _, file = node.module.partition(".")
                    self.assertEqual(package, "wallplan")
                    self.assertTrue({row.name for row in node.names} <= defined[file], (name, file))
                    draws[name[:-3]].add(file)
        # Taking away, again and again, what draws from nothing that is left must leave nothing.
        while draws:
            free = [file for file, wanted in draws.items() if not wanted & set(draws)]
            self.assertNotEqual(free, [], draws)
            for file in free:
                del draws[file]

    def test_python_reads_it_without_a_warning(self):
        with warnings.catch_warnings():
            warnings.simplefilter("error")
            for path in files():
                compile(path.read_text(), path.name, "exec")

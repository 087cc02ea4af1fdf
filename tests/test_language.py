"""The package's own files keep to the part of Python that the program is written in."""

import ast
import builtins
import re
import unittest
from pathlib import Path

PACKAGE = Path(__file__).resolve().parent.parent / "undivide"

BUILTINS = set("""
len range enumerate zip min max sum abs sorted reversed int str bool bytes list tuple dict set frozenset isinstance
ord repr any all divmod Exception ValueError TypeError KeyError IndexError LookupError ZeroDivisionError
ArithmeticError OverflowError RuntimeError NotImplementedError AttributeError StopIteration
""".split())

METHODS = set("""
append clear copy count endswith extend find get index insert isalnum isalpha isdigit islower isspace isupper items
join keys ljust lower lstrip partition pop remove replace reverse rfind rjust rpartition rsplit rstrip setdefault
split splitlines startswith strip update upper values zfill bit_length title capitalize swapcase casefold center
expandtabs removeprefix removesuffix rindex isascii isdecimal isnumeric istitle isidentifier isprintable sort add
discard
""".split())

NODES = set("""
Module Expr Constant ImportFrom alias FunctionDef arguments arg ClassDef Assign AugAssign AnnAssign If While For
Return Break Continue Pass Raise Try ExceptHandler Assert Delete Name Load Store Del Attribute Subscript Slice Call
keyword BinOp UnaryOp BoolOp Compare IfExp Lambda List Tuple Dict Set ListComp DictComp SetComp comprehension
JoinedStr FormattedValue Starred Add Sub Mult FloorDiv Mod Pow LShift RShift BitOr BitXor BitAnd Invert Not UAdd
USub And Or Eq NotEq Lt LtE Gt GtE Is IsNot In NotIn
""".split())

WORDS = re.compile(r"""\b(type|typing|typing_extensions|enum|Enum|IntEnum|StrEnum|Flag|IntFlag|Generic|Protocol|ABC
|ABCMeta|namedtuple|NamedTuple|TypedDict|TYPE_CHECKING|abstractmethod)\b|dataclass|overload|contextmanager""", re.X)

UNUSED_NAMES = set("""
register mro elements open input version_info with_traceback add_note attrgetter breakpoint builtins compile copyright
credits delattr dir eval exec exit gc getattr globals hasattr help id importlib license locals methodcaller os quit
setattr super type vars sys chr print format format_map
""".split())

OWN_METHODS = {"__init__"}


def files():
    return sorted(PACKAGE.rglob("*.py"))


def trees():
    return [(path, ast.parse(path.read_text())) for path in files()]


def tops(tree):
    """The names that a file binds at its top, imports aside."""
    for node in tree.body:
        if isinstance(node, (ast.FunctionDef, ast.ClassDef)):
            yield node.name
        elif isinstance(node, ast.Assign):
            for target in node.targets:
                yield target.id


def drawn(tree):
    """Pairs (module, name) of a file's imports."""
    for node in tree.body:
        if isinstance(node, ast.ImportFrom):
            for one in node.names:
                yield node.module, one.asname or one.name


def local_names(function):
    args = function.args
    yield from (one.arg for one in args.posonlyargs + args.args + args.kwonlyargs)
    for node in ast.walk(function):
        if isinstance(node, ast.Name) and isinstance(node.ctx, ast.Store):
            yield node.id
        elif isinstance(node, ast.ExceptHandler) and node.name:
            yield node.name


class Language(unittest.TestCase):
    def test_files(self):
        here = [path for path in PACKAGE.rglob("*") if "__pycache__" not in path.parts]
        for path in here:
            self.assertTrue(path.suffix == ".py" and re.fullmatch(r"[a-z0-9_]+\.py", path.name), path)

    def test_signs_and_sizes(self):
        for path in files():
            text = path.read_text()
            lines = text.split("\n")
            self.assertIsNone(re.search(r"[^ -~\n]", text), path)
            self.assertIsNone(WORDS.search(text), path)
            self.assertLessEqual(len(lines), 400, path)
            self.assertLessEqual(max(len(line) for line in lines), 120, path)

    def test_nodes(self):
        for path, tree in trees():
            for node in ast.walk(tree):
                where = f"{path.name}:{getattr(node, 'lineno', '')} {type(node).__name__}"
                self.assertIn(type(node).__name__, NODES, where)
                if isinstance(node, (ast.FunctionDef, ast.ClassDef)):
                    self.assertEqual(node.decorator_list, [], where)
                if isinstance(node, ast.FunctionDef):
                    self.assertLessEqual(node.end_lineno - node.lineno + 1, 40, where)
                    self.assertTrue(node.args.vararg is None and node.args.kwarg is None, where)
                    self.assertEqual(node.args.posonlyargs, [], where)
                if isinstance(node, ast.Constant):
                    self.assertNotIsInstance(node.value, (float, complex), where)
                    self.assertFalse(isinstance(node.value, str) and "%" in node.value, where)
                if isinstance(node, (ast.For, ast.While)):
                    self.assertEqual(node.orelse, [], where)
                if isinstance(node, ast.BinOp) and isinstance(node.op, ast.Pow):
                    self.assertIsInstance(node.right, ast.Constant, where)
                if isinstance(node, ast.Compare):
                    for op, right in zip(node.ops, node.comparators):
                        if isinstance(op, (ast.Is, ast.IsNot)):
                            self.assertIn(getattr(right, "value", 0), (None, True, False), where)

    def test_names(self):
        for path, tree in trees():
            imports = {name for _, name in drawn(tree)}
            classes = {node.name for node in tree.body if isinstance(node, ast.ClassDef)}
            bound = list(tops(tree)) + sorted(imports)
            self.assertEqual(len(bound), len(set(bound)), path)
            for node in ast.walk(tree):
                where = f"{path.name}:{getattr(node, 'lineno', '')}"
                if isinstance(node, ast.Name):
                    self.assertFalse(node.id.startswith("_"), where)
                    self.assertNotIn(node.id, UNUSED_NAMES, where)
                    if hasattr(builtins, node.id):
                        self.assertIn(node.id, BUILTINS, where)
                        self.assertIsInstance(node.ctx, ast.Load, where)
                if isinstance(node, ast.FunctionDef):
                    self.assertFalse(node.name.startswith("_") and node.name not in OWN_METHODS, where)
                    self.assertNotIn(node.name, UNUSED_NAMES, where)
                    for name in local_names(node):
                        self.assertNotIn(name, imports | classes, where)
                        self.assertFalse(hasattr(builtins, name), where)

    def test_imports(self):
        homes = {f"undivide.{path.stem}": set(tops(tree)) for path, tree in trees()}
        draws = {}
        for path, tree in trees():
            draws[f"undivide.{path.stem}"] = {module for module, _ in drawn(tree)}
            for module, name in drawn(tree):
                self.assertIn(name, homes[module], path)
            for node in ast.walk(tree):
                if isinstance(node, ast.ImportFrom):
                    self.assertIn(node, tree.body, path)
        while draws:
            free = [one for one, others in draws.items() if not others & set(draws)]
            self.assertTrue(free, f"these draw from one another: {sorted(draws)}")
            for one in free:
                del draws[one]

    def test_methods_and_values(self):
        methods, values = set(), set()
        for _, tree in trees():
            for top in tree.body:
                if isinstance(top, ast.ClassDef):
                    methods |= {node.name for node in top.body if isinstance(node, ast.FunctionDef)}
            for node in ast.walk(tree):
                if isinstance(node, ast.Attribute) and isinstance(node.ctx, ast.Store):
                    values.add(node.attr)
        self.assertEqual(methods & values, set())
        for path, tree in trees():
            called = {id(node.func) for node in ast.walk(tree) if isinstance(node, ast.Call)}
            for node in ast.walk(tree):
                if isinstance(node, ast.Attribute):
                    where = f"{path.name}:{node.lineno} {node.attr}"
                    self.assertIn(node.attr, (methods | METHODS) if id(node) in called else values, where)

"""The package's files keep to the part of Python that is allowed, as far as a look at them shows."""

import ast
import builtins
import pathlib
import re
import unittest

PACKAGE = pathlib.Path(__file__).resolve().parent.parent / "nestarray"
FILES = sorted(path for path in PACKAGE.rglob("*") if "__pycache__" not in path.parts)

NODES = set("""
    Module FunctionDef ClassDef Lambda arguments arg Return Assign AugAssign For While If Raise Try ExceptHandler
    Expr Pass Break Continue ImportFrom alias BoolOp And Or BinOp Add Sub Mult FloorDiv Mod Pow LShift RShift
    BitOr BitXor BitAnd UnaryOp Not USub Invert IfExp Compare Eq NotEq Lt LtE Gt GtE Is IsNot In NotIn Call
    keyword JoinedStr FormattedValue Constant Attribute Subscript Slice Name Load Store List Tuple Dict ListComp
    comprehension
""".split())
BUILTINS = set("""
    len range enumerate zip min max sum abs sorted reversed int str bool list tuple dict set isinstance ord repr
    any all divmod Exception ValueError KeyError IndexError LookupError ZeroDivisionError
""".split())
METHODS = set("""
    append clear copy count endswith extend find get index insert isalnum isalpha isdigit islower isspace isupper
    items join keys ljust lower lstrip partition pop remove replace reverse rfind rjust rpartition rsplit rstrip
    setdefault split splitlines startswith strip update upper values zfill bit_length
""".split())
WORDS = re.compile(r"\b(type|typing|typing_extensions|enum|Enum|IntEnum|StrEnum|Flag|IntFlag|Generic|Protocol|ABC|"
                   r"ABCMeta|namedtuple|NamedTuple|TypedDict|TYPE_CHECKING|abstractmethod)\b|"
                   r"dataclass|overload|contextmanager")


def trees():
    return [(path, ast.parse(path.read_text(encoding="utf-8"))) for path in FILES]


def names_bound(tree):
    for node in ast.walk(tree):
        if isinstance(node, ast.Name) and isinstance(node.ctx, ast.Store):
            yield node.id
        elif isinstance(node, (ast.FunctionDef, ast.ClassDef)) or isinstance(node, ast.ExceptHandler) and node.name:
            yield node.name
        elif isinstance(node, ast.arg):
            yield node.arg


def top_names(tree):
    return {node.name for node in tree.body if isinstance(node, (ast.FunctionDef, ast.ClassDef))}


class LanguageTest(unittest.TestCase):

    def test_files(self):
        self.assertIn(PACKAGE / "__init__.py", FILES)
        for path in FILES:
            self.assertRegex(path.name, r"^(__init__|[a-z][a-z0-9_]*)\.py$")
            text = path.read_bytes().decode("utf-8")
            self.assertRegex(text, r"\A[ -~\n]*\Z", path)
            rows = text.split("\n")
            self.assertLessEqual(len(rows), 400, path)
            self.assertLessEqual(max(len(row) for row in rows), 120, path)
            self.assertIsNone(WORDS.search(text), path)

    def test_parts_of_the_language(self):
        for path, tree in trees():
            for node in ast.walk(tree):
                place = (path.name, getattr(node, "lineno", 0))
                self.assertIn(type(node).__name__, NODES, place)
                if isinstance(node, ast.Constant):
                    self.assertNotIsInstance(node.value, (float, bytes, complex), place)
                if isinstance(node, ast.FunctionDef):
                    self.assertLess(node.end_lineno - node.lineno, 40, place)
                    self.assertEqual(node.decorator_list, [], place)
                if isinstance(node, ast.Try):
                    self.assertEqual(node.finalbody, [], place)
                if isinstance(node, (ast.For, ast.While)):
                    self.assertEqual(node.orelse, [], place)
                if isinstance(node, ast.Assign):
                    self.assertEqual(len(node.targets), 1, place)

    def test_names(self):
        own_methods = set()
        for path, tree in trees():
            bound = list(names_bound(tree))
            for name in bound:
                self.assertRegex(name, r"^([A-Za-z][A-Za-z0-9_]*|__init__)$", path.name)
                self.assertNotIn(name, vars(builtins), path.name)
            own_methods.update(bound)
            for node in tree.body:
                if isinstance(node, ast.ImportFrom):
                    bound.extend(alias.name for alias in node.names)
            for node in ast.walk(tree):
                if isinstance(node, ast.Name) and node.id not in bound:
                    self.assertIn(node.id, BUILTINS, (path.name, node.lineno))
        for path, tree in trees():
            for node in ast.walk(tree):
                if isinstance(node, ast.Call) and isinstance(node.func, ast.Attribute):
                    self.assertIn(node.func.attr, METHODS | own_methods, (path.name, node.lineno))

    def test_imports(self):
        draws = {}
        for path, tree in trees():
            draws[path.stem] = set()
            for node in ast.walk(tree):
                if isinstance(node, ast.ImportFrom):
                    self.assertIn(node, tree.body, path.name)
                    self.assertEqual(node.level, 0, path.name)
                    self.assertRegex(node.module, r"^nestarray\.[a-z_]+$", path.name)
                    draws[path.stem].add(node.module.split(".")[1])
        while draws:
            free = [stem for stem in draws if not draws[stem] & set(draws)]
            self.assertNotEqual(free, [], "files that draw from one another: %s" % sorted(draws))
            for stem in free:
                draws.pop(stem)

    def test_each_call_is_defined_in_the_desk_alone(self):
        calls = top_names(ast.parse((PACKAGE / "desk.py").read_text(encoding="utf-8")))
        for path, tree in trees():
            if path.name != "desk.py":
                self.assertEqual(top_names(tree) & calls, set(), path.name)

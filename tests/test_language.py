"""The package keeps to its small part of Python: the rules that a reading of the files can see."""

import ast
import builtins
import re
import unittest
from pathlib import Path

PACKAGE = Path(__file__).resolve().parent.parent / "wantprices"

OWN_NAMES = set(
    "len range enumerate zip min max sum abs sorted reversed int str bool bytes list tuple dict set frozenset"
    " isinstance ord repr any all divmod Exception ValueError TypeError KeyError IndexError LookupError"
    " ZeroDivisionError ArithmeticError OverflowError RuntimeError NotImplementedError AttributeError"
    " StopIteration".split()
)
OWN_METHODS = set(
    "append clear copy count endswith extend find get index insert isalnum isalpha isdigit islower isspace"
    " isupper items join keys ljust lower lstrip partition pop remove replace reverse rfind rjust rpartition"
    " rsplit rstrip setdefault split splitlines startswith strip update upper values zfill bit_length sort"
    " title capitalize swapcase casefold center removeprefix removesuffix rindex isascii isdecimal isnumeric"
    " istitle isidentifier isprintable add discard".split()
)
UNUSED_NAMES = set(
    "register mro elements open input version_info with_traceback add_note attrgetter breakpoint builtins"
    " compile copyright credits delattr dir eval exec exit gc getattr globals hasattr help id importlib"
    " license locals methodcaller os quit setattr super vars sys chr".split()
)
UNUSED_WORDS = (
    r"\b(type|typing|typing_extensions|enum|Enum|IntEnum|StrEnum|Flag|IntFlag|Generic|Protocol|ABC|ABCMeta"
    r"|namedtuple|NamedTuple|TypedDict|TYPE_CHECKING|abstractmethod)\b|dataclass|overload|contextmanager"
)
UNUSED_FORMS = (
    ast.With, ast.Match, ast.Global, ast.Nonlocal, ast.Yield, ast.YieldFrom, ast.AsyncFunctionDef, ast.AsyncFor,
    ast.AsyncWith, ast.Await, ast.GeneratorExp, ast.NamedExpr, ast.Div, ast.MatMult, ast.Import, ast.TryStar,
)
TOP_FORMS = (ast.ImportFrom, ast.FunctionDef, ast.ClassDef, ast.Assign, ast.Expr)
DUNDERS = {"__init__", "__eq__", "__repr__", "__str__", "__len__"}


def files():
    return sorted(path for path in PACKAGE.rglob("*") if path.is_file() and "__pycache__" not in path.parts)


def trees():
    return [(path, ast.parse(path.read_text())) for path in files()]


def nodes(kind):
    return [(path, node) for path, tree in trees() for node in ast.walk(tree) if isinstance(node, kind)]


def bound_in(tree):
    """All names that a file binds anywhere."""
    names = [node.id for node in ast.walk(tree) if isinstance(node, ast.Name) and isinstance(node.ctx, ast.Store)]
    names += [node.arg for node in ast.walk(tree) if isinstance(node, ast.arg)]
    names += [node.name for node in ast.walk(tree) if isinstance(node, (ast.FunctionDef, ast.ClassDef))]
    return names + [node.name for node in ast.walk(tree) if isinstance(node, ast.ExceptHandler) and node.name]


def drawn_in(tree):
    """All names that a file imports."""
    return [name.name for node in ast.walk(tree) if isinstance(node, ast.ImportFrom) for name in node.names]


def defined_at_top(tree):
    """All names that a file gives at its top."""
    names = [node.name for node in tree.body if isinstance(node, (ast.FunctionDef, ast.ClassDef))]
    return names + [target.id for node in tree.body if isinstance(node, ast.Assign) for target in node.targets]


class Language(unittest.TestCase):

    def test_files_and_signs(self):
        for path in files():
            self.assertRegex(path.name, r"^(__init__|__main__|[a-z][a-z0-9_]*)\.py$")
            self.assertRegex(path.read_text(), r"^[ -~\n]*$", path.name)
            self.assertIsNone(re.search(UNUSED_WORDS, path.read_text()), path.name)

    def test_sizes(self):
        for path, tree in trees():
            lines = path.read_text().split("\n")
            self.assertLessEqual(len(lines), 400, path.name)
            self.assertLessEqual(max(len(line) for line in lines), 120, path.name)
            for node in ast.walk(tree):
                if isinstance(node, ast.FunctionDef):
                    self.assertLessEqual(node.end_lineno - node.lineno + 1, 40, node.name)

    def test_forms(self):
        self.assertEqual(nodes(UNUSED_FORMS), [])
        for path, node in nodes((ast.For, ast.While)):
            self.assertEqual(node.orelse, [], path.name)
        for path, node in nodes(ast.Constant):
            self.assertNotIsInstance(node.value, (float, complex), path.name)
            self.assertFalse(isinstance(node.value, str) and "%" in node.value, path.name)
        for path, node in nodes(ast.Pow):
            self.fail(f"{path.name}: a power")

    def test_tops(self):
        for path, tree in trees():
            for node in tree.body:
                self.assertIsInstance(node, TOP_FORMS, path.name)
            names = defined_at_top(tree) + drawn_in(tree)
            self.assertEqual(len(names), len(set(names)), path.name)

    def test_functions_and_classes(self):
        for path, node in nodes(ast.FunctionDef):
            taken = node.args
            self.assertEqual((taken.vararg, taken.kwarg, taken.posonlyargs), (None, None, []), node.name)
            self.assertEqual(node.decorator_list, [], node.name)
        for path, node in nodes(ast.ClassDef):
            self.assertEqual((node.decorator_list, node.keywords), ([], []), node.name)
            self.assertLessEqual(len(node.bases), 1, node.name)
            for row in node.body:
                is_words = isinstance(row, ast.Expr) and isinstance(row.value, ast.Constant)
                self.assertTrue(is_words or isinstance(row, ast.FunctionDef), node.name)

    def test_names(self):
        python = set(dir(builtins))
        for path, tree in trees():
            bound, drawn = bound_in(tree), drawn_in(tree)
            top = defined_at_top(tree)
            for name in bound:
                self.assertTrue(name in DUNDERS or re.fullmatch("[A-Za-z][A-Za-z0-9_]*", name), name)
                self.assertNotIn(name, UNUSED_NAMES, path.name)
                self.assertNotIn(name, python, path.name)
                self.assertNotIn(name, drawn, path.name)
            for name in top:
                self.assertEqual(bound.count(name), 1, f"{path.name}: {name}")
            for node in ast.walk(tree):
                if isinstance(node, ast.Name) and isinstance(node.ctx, ast.Load):
                    self.assertTrue(node.id in bound + drawn or node.id in OWN_NAMES, f"{path.name}: {node.id}")

    def test_imports(self):
        at_top = {path.stem: defined_at_top(tree) for path, tree in trees()}
        draws = {path.stem: [] for path in files()}
        for path, node in nodes(ast.ImportFrom):
            package, _, module = node.module.partition(".")
            self.assertEqual((package, node.level), ("wantprices", 0), path.name)
            for name in node.names:
                self.assertIn(name.name, at_top[module], path.name)
                self.assertIsNone(name.asname, path.name)
            draws[path.stem].append(module)
        while draws:
            free = [stem for stem in draws if not any(module in draws for module in draws[stem])]
            self.assertTrue(free, f"in a ring: {sorted(draws)}")
            draws = {stem: draws[stem] for stem in draws if stem not in free}

    def test_is_stands_beside_truths_and_none(self):
        for path, node in nodes(ast.Compare):
            for sign, right in zip(node.ops, node.comparators):
                if isinstance(sign, (ast.Is, ast.IsNot)):
                    self.assertIsInstance(right, ast.Constant, path.name)
                    self.assertIn(right.value, (None, True, False), path.name)

    def test_walks_are_not_kept(self):
        walks = {"zip", "enumerate", "reversed", "range", "items", "keys", "values"}
        for path, node in nodes((ast.Assign, ast.AugAssign, ast.Return)):
            if isinstance(node.value, ast.Call):
                name = getattr(node.value.func, "id", getattr(node.value.func, "attr", None))
                self.assertNotIn(name, walks, path.name)

    def test_what_is_given(self):
        for path, node in nodes((ast.Assign, ast.AugAssign, ast.For, ast.comprehension)):
            for target in getattr(node, "targets", None) or [node.target]:
                if isinstance(target, ast.Tuple):
                    for part in ast.walk(target):
                        plain = isinstance(part, (ast.Tuple, ast.Name, ast.Starred, ast.Store))
                        self.assertTrue(plain, f"{path.name}: {ast.unparse(target)}")

    def test_values_of_objects_are_given_by_some_class(self):
        given = {node.attr for _, node in nodes(ast.Attribute) if isinstance(node.ctx, ast.Store)}
        own = {node.name for _, node in nodes(ast.FunctionDef)}
        self.assertEqual(given & own, set())
        for path, tree in trees():
            called = {id(node.func) for node in ast.walk(tree) if isinstance(node, ast.Call)}
            for node in ast.walk(tree):
                if isinstance(node, ast.Attribute) and id(node) not in called:
                    self.assertIn(node.attr, given, path.name)

    def test_errors_that_are_taken(self):
        for path, node in nodes(ast.ExceptHandler):
            self.assertIn(ast.unparse(node.type), ("NoText", "NotOfKind"), path.name)
        for path, node in nodes(ast.Raise):
            self.assertIsInstance(node.exc, ast.Call, path.name)

    def test_methods(self):
        own = {node.name for _, node in nodes(ast.FunctionDef)}
        for path, node in nodes(ast.Call):
            if isinstance(node.func, ast.Attribute):
                self.assertIn(node.func.attr, OWN_METHODS | own, path.name)


if __name__ == "__main__":
    unittest.main()

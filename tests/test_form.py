"""The form of the files: some of the rules of the package's language, those that are easily told by looking at one file."""

import ast
import pathlib
import re
import unittest

PACKAGE = pathlib.Path(__file__).resolve().parent.parent / "glowrow"
BARRED_WORDS = (
    "type typing typing_extensions enum Enum IntEnum StrEnum Flag IntFlag Generic Protocol ABC ABCMeta namedtuple "
    "NamedTuple TypedDict TYPE_CHECKING abstractmethod"
).split()
BARRED_NODES = (
    ast.With, ast.Match, ast.Global, ast.Nonlocal, ast.Yield, ast.YieldFrom, ast.AsyncFunctionDef, ast.Await,
    ast.GeneratorExp, ast.NamedExpr, ast.Import, ast.Div, ast.MatMult,
)
KNOWN_NAMES = set((
    "len range enumerate zip min max sum abs sorted reversed int str bool bytes list tuple dict set frozenset "
    "isinstance ord repr any all divmod Exception ValueError TypeError KeyError IndexError LookupError "
    "ZeroDivisionError ArithmeticError OverflowError RuntimeError NotImplementedError AttributeError StopIteration"
).split())
DUNDERS = ("__init__", "__eq__", "__repr__", "__str__", "__len__")


def files():
    return sorted(PACKAGE.rglob("*.py"))


def bound_names(tree):
    """Every name that a file gives a meaning, wherever in it."""
    told = set()
    for node in ast.walk(tree):
        if isinstance(node, (ast.FunctionDef, ast.ClassDef)):
            told.add(node.name)
        elif isinstance(node, ast.arg):
            told.add(node.arg)
        elif isinstance(node, ast.Name) and not isinstance(node.ctx, ast.Load):
            told.add(node.id)
        elif isinstance(node, ast.ImportFrom):
            told.update(alias.asname or alias.name for alias in node.names)
        elif isinstance(node, ast.ExceptHandler) and node.name:
            told.add(node.name)
    return told


def trees():
    return [(path.name, ast.parse(path.read_text("utf-8"))) for path in files()]


class Form(unittest.TestCase):
    def test_the_package_holds_plain_python_files_alone(self):
        self.assertIn(PACKAGE / "__init__.py", files())
        for path in PACKAGE.rglob("*"):
            if "__pycache__" not in path.parts:
                self.assertRegex(path.name, r"^([a-z][a-z0-9_]*|__init__|__main__)(\.py)?$")
                self.assertTrue(path.is_dir() or path.suffix == ".py", path)

    def test_sizes_and_signs(self):
        for path in files():
            text = path.read_text("utf-8")
            self.assertRegex(text, r"\A[ -~\n]*\Z", path.name)
            lines = text.split("\n")
            self.assertLessEqual(len(lines), 400, path.name)
            self.assertLessEqual(max(len(line) for line in lines), 120, path.name)

    def test_words_that_stand_nowhere(self):
        for path in files():
            text = path.read_text("utf-8")
            words = set(re.findall(r"\w+", text))
            self.assertEqual([word for word in BARRED_WORDS if word in words], [], path.name)
            self.assertNotRegex(text, r"dataclass|overload|contextmanager")

    def test_functions_are_short_and_plain(self):
        for file, tree in trees():
            for node in ast.walk(tree):
                if isinstance(node, (ast.FunctionDef, ast.ClassDef)):
                    self.assertEqual(node.decorator_list, [], (file, node.name))
                if isinstance(node, ast.FunctionDef):
                    self.assertLessEqual(node.end_lineno - node.lineno + 1, 40, (file, node.name))
                    args = node.args
                    self.assertEqual((args.vararg, args.kwarg, args.posonlyargs), (None, None, []), file)

    def test_imports_are_the_packages_own(self):
        for file, tree in trees():
            for node in ast.walk(tree):
                if isinstance(node, ast.ImportFrom):
                    self.assertEqual(node.level, 0, file)
                    self.assertRegex(node.module, r"^glowrow\.[a-z_]+$", file)
                    self.assertIn(node, tree.body, file)
                    self.assertNotIn("*", [alias.name for alias in node.names], file)

    def test_no_statement_or_value_outside_the_language(self):
        for file, tree in trees():
            for node in ast.walk(tree):
                self.assertNotIsInstance(node, BARRED_NODES, file)
                if isinstance(node, ast.Constant):
                    self.assertNotIsInstance(node.value, (float, complex), file)
                if isinstance(node, (ast.For, ast.While)):
                    self.assertEqual(node.orelse, [], file)

    def test_names_are_plain_and_known(self):
        for file, tree in trees():
            bound = bound_names(tree)
            for name in bound:
                self.assertTrue(name in DUNDERS or re.match(r"^[A-Za-z]\w*$", name), (file, name))
                self.assertNotIn(name, KNOWN_NAMES, file)
            for node in ast.walk(tree):
                if isinstance(node, ast.Name):
                    self.assertIn(node.id, bound | KNOWN_NAMES, file)


if __name__ == "__main__":
    unittest.main()

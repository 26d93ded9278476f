"""The form of the files: some of the rules of the package's language, those that are easily told."""

import ast
import builtins
import pathlib
import re
import unittest

PACKAGE = pathlib.Path(__file__).resolve().parent.parent / "glowrow"
BARRED_WORDS = (
    "type typing typing_extensions enum Enum IntEnum StrEnum Flag IntFlag Generic Protocol ABC ABCMeta namedtuple "
    "NamedTuple TypedDict TYPE_CHECKING abstractmethod"
).split()
BARRED_NODES = (
    ast.With, ast.Match, ast.Global, ast.Nonlocal, ast.Yield, ast.YieldFrom, ast.AsyncFunctionDef, ast.Await,
    ast.GeneratorExp, ast.NamedExpr, ast.Import, ast.Div, ast.MatMult,
)
KNOWN_NAMES = set((
    "len range enumerate zip min max sum abs sorted reversed int str bool bytes list tuple dict set frozenset "
    "isinstance ord repr any all divmod Exception ValueError TypeError KeyError IndexError LookupError "
    "ZeroDivisionError ArithmeticError OverflowError RuntimeError NotImplementedError AttributeError StopIteration"
).split())
BARRED_AS_NAMES = (
    "register mro elements open input version_info with_traceback add_note attrgetter breakpoint builtins compile "
    "copyright credits delattr dir eval exec exit gc getattr globals hasattr help id importlib license locals "
    "methodcaller os quit setattr super type vars sys"
).split()
KNOWN_METHODS = set((
    "append clear copy count endswith extend find get index insert isalnum isalpha isdigit islower isspace isupper "
    "items join keys ljust lower lstrip partition pop remove replace reverse rfind rjust rpartition rsplit rstrip "
    "setdefault split splitlines startswith strip update upper values zfill bit_length sort add discard"
).split())
WALKED = ("zip", "enumerate", "reversed", "range", "items", "keys", "values")
WALKERS = ("list", "tuple", "dict", "sorted", "sum", "any", "all", "enumerate", "zip", "min", "max", "join")
DUNDERS = ("__init__", "__eq__", "__repr__", "__str__", "__len__")


def files():
    return sorted(PACKAGE.rglob("*.py"))


def bound_names(tree):
    """Every name that a file gives a meaning, wherever in it."""
    told = set()
    for node in ast.walk(tree):
        if isinstance(node, (ast.FunctionDef, ast.ClassDef)):
            told.add(node.name)
        elif isinstance(node, ast.arg):
            told.add(node.arg)
        elif isinstance(node, ast.Name) and not isinstance(node.ctx, ast.Load):
            told.add(node.id)
        elif isinstance(node, ast.ImportFrom):
            told.update(alias.asname or alias.name for alias in node.names)
        elif isinstance(node, ast.ExceptHandler) and node.name:
            told.add(node.name)
    return told


def local_names(tree):
    """Every parameter's, local's and inner def's name of a file."""
    told = set()
    for node in ast.walk(tree):
        if isinstance(node, (ast.FunctionDef, ast.Lambda)):
            told.update(arg.arg for arg in node.args.args + node.args.kwonlyargs)
        if isinstance(node, ast.FunctionDef):
            for inner in ast.walk(node):
                if isinstance(inner, ast.Name) and not isinstance(inner.ctx, ast.Load):
                    told.add(inner.id)
                elif isinstance(inner, ast.FunctionDef) and inner is not node:
                    told.add(inner.name)
    return told


def own_methods():
    told = set()
    for file, tree in trees():
        for node in ast.walk(tree):
            if isinstance(node, ast.ClassDef):
                told.update(part.name for part in node.body if isinstance(part, ast.FunctionDef))
    return told


def own_values():
    told = set()
    for file, tree in trees():
        for node in ast.walk(tree):
            if isinstance(node, ast.Attribute) and isinstance(node.ctx, ast.Store):
                told.add(node.attr)
    return told


def called_name(node):
    """What a call calls, be it a name or a method; of other things an empty text."""
    called = getattr(node, "func", None)
    return getattr(called, "id", getattr(called, "attr", ""))


def trees():
    return [(path.name, ast.parse(path.read_text("utf-8"))) for path in files()]


class Form(unittest.TestCase):
    def test_the_package_holds_plain_python_files_alone(self):
        self.assertIn(PACKAGE / "__init__.py", files())
        for path in PACKAGE.rglob("*"):
            if "__pycache__" not in path.parts:
                self.assertRegex(path.name, r"^([a-z][a-z0-9_]*|__init__|__main__)(\.py)?$")
                self.assertTrue(path.is_dir() or path.suffix == ".py", path)

    def test_sizes_and_signs(self):
        for path in files():
            text = path.read_text("utf-8")
            self.assertRegex(text, r"\A[ -~\n]*\Z", path.name)
            lines = text.split("\n")
            self.assertLessEqual(len(lines), 400, path.name)
            self.assertLessEqual(max(len(line) for line in lines), 120, path.name)

    def test_words_that_stand_nowhere(self):
        for path in files():
            text = path.read_text("utf-8")
            words = set(re.findall(r"\w+", text))
            self.assertEqual([word for word in BARRED_WORDS if word in words], [], path.name)
            self.assertNotRegex(text, r"dataclass|overload|contextmanager")

    def test_functions_are_short_and_plain(self):
        for file, tree in trees():
            for node in ast.walk(tree):
                if isinstance(node, (ast.FunctionDef, ast.ClassDef)):
                    self.assertEqual(node.decorator_list, [], (file, node.name))
                if isinstance(node, ast.FunctionDef):
                    self.assertLessEqual(node.end_lineno - node.lineno + 1, 40, (file, node.name))
                    args = node.args
                    self.assertEqual((args.vararg, args.kwarg, args.posonlyargs), (None, None, []), file)

    def test_imports_are_the_packages_own(self):
        for file, tree in trees():
            for node in ast.walk(tree):
                if isinstance(node, ast.ImportFrom):
                    self.assertEqual(node.level, 0, file)
                    self.assertRegex(node.module, r"^glowrow\.[a-z_]+$", file)
                    self.assertIn(node, tree.body, file)
                    self.assertNotIn("*", [alias.name for alias in node.names], file)

    def test_no_statement_or_value_outside_the_language(self):
        for file, tree in trees():
            for node in ast.walk(tree):
                self.assertNotIsInstance(node, BARRED_NODES, file)
                if isinstance(node, ast.Constant):
                    self.assertNotIsInstance(node.value, (float, complex), file)
                if isinstance(node, (ast.For, ast.While)):
                    self.assertEqual(node.orelse, [], file)

    def test_names_are_plain_and_known(self):
        for file, tree in trees():
            bound = bound_names(tree)
            for name in bound:
                self.assertTrue(name in DUNDERS or re.match(r"^[A-Za-z]\w*$", name), (file, name))
                self.assertNotIn(name, KNOWN_NAMES, file)
            for node in ast.walk(tree):
                if isinstance(node, ast.Name):
                    self.assertIn(node.id, bound | KNOWN_NAMES, file)

    def test_no_local_is_called_like_pythons_own_or_like_an_import_or_a_class(self):
        for file, tree in trees():
            tops = {node.name for node in tree.body if isinstance(node, ast.ClassDef)}
            for node in tree.body:
                if isinstance(node, ast.ImportFrom):
                    tops.update(alias.name for alias in node.names)
            for name in local_names(tree):
                self.assertNotIn(name, tops, file)
                self.assertFalse(hasattr(builtins, name), (file, name))

    def test_barred_names(self):
        for file, tree in trees():
            self.assertEqual([name for name in BARRED_AS_NAMES if name in bound_names(tree)], [], file)

    def test_each_name_is_given_once_at_a_files_top(self):
        for file, tree in trees():
            told = []
            for node in tree.body:
                if isinstance(node, (ast.FunctionDef, ast.ClassDef)):
                    told.append(node.name)
                elif isinstance(node, ast.ImportFrom):
                    told += [alias.name for alias in node.names]
                elif isinstance(node, ast.Assign):
                    told += [target.id for target in node.targets]
            self.assertEqual(len(told), len(set(told)), file)

    def test_no_name_is_a_method_and_a_value(self):
        self.assertEqual(own_methods() & own_values(), set())

    def test_what_is_asked_of_things_is_theirs(self):
        for file, tree in trees():
            called = set()
            for node in ast.walk(tree):
                if isinstance(node, ast.Call) and isinstance(node.func, ast.Attribute):
                    called.add(node.func)
                    self.assertIn(node.func.attr, own_methods() | KNOWN_METHODS, file)
            for node in ast.walk(tree):
                if isinstance(node, ast.Attribute) and node not in called:
                    self.assertIn(node.attr, own_values(), file)

    def test_is_stands_beside_none_and_the_truths_alone(self):
        for file, tree in trees():
            for node in ast.walk(tree):
                if isinstance(node, ast.Compare):
                    for sign, right in zip(node.ops, node.comparators):
                        if isinstance(sign, (ast.Is, ast.IsNot)):
                            self.assertIn(getattr(right, "value", ""), (None, True, False), (file, node.lineno))

    def test_what_is_to_be_walked_is_walked_on_the_spot(self):
        for file, tree in trees():
            good = set()
            for node in ast.walk(tree):
                if isinstance(node, (ast.For, ast.comprehension)):
                    good.add(node.iter)
                elif isinstance(node, ast.Call) and called_name(node) == "reversed":
                    good.update(part for part in node.args if called_name(part) == "range")
                elif isinstance(node, ast.Call) and node.args and called_name(node) in WALKERS:
                    good.add(node.args[0])
                    if called_name(node) == "zip":
                        good.update(node.args)
            for node in ast.walk(tree):
                if isinstance(node, ast.Call) and called_name(node) in WALKED:
                    self.assertIn(node, good, (file, node.lineno))

    def test_texts_and_numbers(self):
        for file, tree in trees():
            for node in ast.walk(tree):
                if isinstance(node, ast.Constant) and isinstance(node.value, str):
                    self.assertNotIn("%", node.value, (file, node.lineno))
                self.assertNotIsInstance(node, (ast.Pow, ast.Starred), file)


if __name__ == "__main__":
    unittest.main()

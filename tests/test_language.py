"""The rules of ../shared/LANGUAGE.md that a look at the files can tell; the rest is read by eye."""

import ast
import builtins
import pathlib
import re
import unittest

PACKAGE = pathlib.Path(__file__).resolve().parent.parent / "laidround"
FILES = sorted(PACKAGE.rglob("*.py"))
BARRED = re.compile(
    r"\b(type|typing|typing_extensions|enum|Enum|IntEnum|StrEnum|Flag|IntFlag|Generic|Protocol|ABC|ABCMeta"
    r"|namedtuple|NamedTuple|TypedDict|TYPE_CHECKING|abstractmethod)\b|dataclass|overload|contextmanager"
)
BUILTINS = {
    "len", "range", "enumerate", "zip", "min", "max", "sum", "abs", "sorted", "reversed", "int", "str", "bool",
    "bytes", "list", "tuple", "dict", "set", "frozenset", "isinstance", "ord", "repr", "any", "all", "divmod",
}
ERRORS = {
    "Exception", "ValueError", "TypeError", "KeyError", "IndexError", "LookupError", "ZeroDivisionError",
    "ArithmeticError", "OverflowError", "RuntimeError", "NotImplementedError", "AttributeError", "StopIteration",
}
METHODS = set(
    "append clear copy count endswith extend find get index insert isalnum isalpha isdigit islower isspace isupper "
    "items join keys ljust lower lstrip partition pop remove replace reverse rfind rjust rpartition rsplit rstrip "
    "setdefault split splitlines startswith strip update upper values zfill bit_length removeprefix "
    "removesuffix".split()
)
NEVER = set(
    "register mro elements open input version_info with_traceback add_note attrgetter breakpoint builtins compile "
    "copyright credits delattr dir eval exec exit gc getattr globals hasattr help id importlib license locals "
    "methodcaller os quit setattr vars sys".split()
)
OWN_SPECIAL = {"__init__"}


def tree_of(path):
    return ast.parse(path.read_text())


def bound_at_the_top(tree):
    """The names that a file binds outside of functions and classes, each as often as it does."""
    names = []
    for node in tree.body:
        if isinstance(node, (ast.FunctionDef, ast.ClassDef)):
            names.append(node.name)
        elif isinstance(node, ast.ImportFrom):
            names += [alias.asname or alias.name for alias in node.names]
        elif isinstance(node, ast.Assign):
            names += [target.id for target in node.targets]
    return names


def bound_within(function):
    """The parameters and local variables of a function."""
    names = {argument.arg for argument in ast.walk(function) if isinstance(argument, ast.arg)}
    stored = [name for name in ast.walk(function) if isinstance(name, ast.Name) and isinstance(name.ctx, ast.Store)]
    return names | {name.id for name in stored}


def methods_of(tree):
    return {
        part.name for node in tree.body if isinstance(node, ast.ClassDef) for part in node.body
        if isinstance(part, ast.FunctionDef)
    }


def assigned_attributes(tree):
    return {node.attr for node in ast.walk(tree) if isinstance(node, ast.Attribute) and isinstance(node.ctx, ast.Store)}


class LanguageTest(unittest.TestCase):
    def test_only_python_files_stand_in_the_package(self):
        self.assertTrue(FILES)
        for path in PACKAGE.rglob("*"):
            if path.is_file() and "__pycache__" not in path.parts:
                self.assertEqual(path.suffix, ".py", path)
                self.assertRegex(path.name, r"^[a-z0-9_]+\.py$")
                self.assertTrue((path.parent / "__init__.py").is_file(), path)

    def test_signs_words_and_sizes(self):
        for path in FILES:
            text = path.read_bytes().decode("ascii")
            self.assertRegex(text, r"\A[ -~\n]*\Z")
            self.assertIsNone(BARRED.search(text), path)
            self.assertLessEqual(len(text.splitlines()), 400, path)
            self.assertLessEqual(max([len(line) for line in text.splitlines()], default=0), 120, path)

    def test_imports_functions_and_names(self):
        for path in FILES:
            for node in ast.walk(ast.parse(path.read_text())):
                with self.subTest(path=str(path), line=getattr(node, "lineno", 0)):
                    self.look_at(node)

    def look_at(self, node):
        self.assertNotIsInstance(node, (ast.Import, ast.Global, ast.Div, ast.AsyncFunctionDef))
        if isinstance(node, ast.ImportFrom):
            self.assertEqual(node.level, 0)
            self.assertTrue(node.module.startswith("laidround."))
        if isinstance(node, ast.FunctionDef):
            self.assertLessEqual(node.end_lineno - node.lineno + 1, 40)
        if isinstance(node, ast.Constant):
            self.assertNotIsInstance(node.value, float)
            if isinstance(node.value, str):
                self.assertNotIn("%", node.value)
        if isinstance(node, ast.Name):
            self.assertFalse(node.id.startswith("_"))
            if isinstance(node.ctx, ast.Store):
                self.assertNotIn(node.id, BUILTINS)
        if isinstance(node, ast.arg):
            self.assertFalse(node.arg.startswith("_"))
            self.assertNotIn(node.arg, BUILTINS)

    def test_powers_and_identity(self):
        for path in FILES:
            for node in ast.walk(tree_of(path)):
                if isinstance(node, ast.BinOp) and isinstance(node.op, ast.Pow):
                    self.assertIsInstance(node.right, ast.Constant, path)
                    self.assertIn(node.right.value, range(65), path)
                if isinstance(node, ast.Compare):
                    for sign, right in zip(node.ops, node.comparators):
                        if isinstance(sign, (ast.Is, ast.IsNot)):
                            self.assertIn(getattr(right, "value", "other"), (None, True, False), path)

    def test_each_name_is_bound_once_and_hides_nothing(self):
        for path in FILES:
            tree = tree_of(path)
            names = bound_at_the_top(tree)
            self.assertEqual(len(names), len(set(names)), path)
            hidden = set(names) | set(dir(builtins)) | NEVER
            self.assertFalse(set(names) & (set(dir(builtins)) | NEVER), path)
            for node in ast.walk(tree):
                if isinstance(node, ast.FunctionDef):
                    self.assertFalse(bound_within(node) & hidden, (path, node.name))
                    self.assertFalse(node.decorator_list, (path, node.name))
                    if node.name.startswith("_"):
                        self.assertIn(node.name, OWN_SPECIAL, path)

    def test_only_known_names_are_read(self):
        for path in FILES:
            tree = tree_of(path)
            known = set(bound_at_the_top(tree)) | BUILTINS | ERRORS | {"super"}
            for node in ast.walk(tree):
                if isinstance(node, ast.FunctionDef):
                    known |= bound_within(node)
            for node in ast.walk(tree):
                if isinstance(node, ast.Name):
                    self.assertIn(node.id, known, path)

    def test_imports_name_the_file_that_defines(self):
        for path in FILES:
            for node in tree_of(path).body:
                if isinstance(node, ast.ImportFrom):
                    source = PACKAGE.parent.joinpath(*node.module.split(".")).with_suffix(".py")
                    defined = bound_at_the_top(tree_of(source))
                    imported = [
                        alias.name for part in tree_of(source).body if isinstance(part, ast.ImportFrom)
                        for alias in part.names
                    ]
                    for alias in node.names:
                        self.assertIn(alias.name, defined, path)
                        self.assertNotIn(alias.name, imported, path)

    def test_methods_and_attributes(self):
        trees = [tree_of(path) for path in FILES]
        methods = set().union(*[methods_of(tree) for tree in trees])
        attributes = set().union(*[assigned_attributes(tree) for tree in trees])
        self.assertFalse(methods & attributes)
        own = set(dir(str)) | set(dir(int)) | set(dir(list)) | set(dir(dict)) | set(dir(set)) | set(dir(bytes))
        self.assertFalse((methods | attributes) & own - OWN_SPECIAL)
        for tree in trees:
            called = [node.func for node in ast.walk(tree) if isinstance(node, ast.Call)]
            for node in ast.walk(tree):
                if isinstance(node, ast.Attribute) and node in called:
                    self.assertIn(node.attr, METHODS | methods)
                elif isinstance(node, ast.Attribute):
                    self.assertIn(node.attr, attributes)


if __name__ == "__main__":
    unittest.main()

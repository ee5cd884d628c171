"""The rules of ../shared/LANGUAGE.md that a look at the files can tell; the rest is read by eye."""

import ast
import pathlib
import re
import unittest

PACKAGE = pathlib.Path(__file__).resolve().parent.parent / "laidround"
FILES = sorted(PACKAGE.rglob("*.py"))
BARRED = re.compile(
    r"\b(type|typing|typing_extensions|enum|Enum|IntEnum|StrEnum|Flag|IntFlag|Generic|Protocol|ABC|ABCMeta"
    r"|namedtuple|NamedTuple|TypedDict|TYPE_CHECKING|abstractmethod)\b|dataclass|overload|contextmanager"
)
BUILTINS = {
    "len", "range", "enumerate", "zip", "min", "max", "sum", "abs", "sorted", "reversed", "int", "str", "bool",
    "bytes", "list", "tuple", "dict", "set", "frozenset", "isinstance", "ord", "repr", "any", "all", "divmod",
}


class LanguageTest(unittest.TestCase):
    def test_only_python_files_stand_in_the_package(self):
        self.assertTrue(FILES)
        for path in PACKAGE.rglob("*"):
            if path.is_file() and "__pycache__" not in path.parts:
                self.assertEqual(path.suffix, ".py", path)
                self.assertRegex(path.name, r"^[a-z0-9_]+\.py$")
                self.assertTrue((path.parent / "__init__.py").is_file(), path)

    def test_signs_words_and_sizes(self):
        for path in FILES:
            text = path.read_bytes().decode("ascii")
            self.assertRegex(text, r"\A[ -~\n]*\Z")
            self.assertIsNone(BARRED.search(text), path)
            self.assertLessEqual(len(text.splitlines()), 400, path)
            self.assertLessEqual(max([len(line) for line in text.splitlines()], default=0), 120, path)

    def test_imports_functions_and_names(self):
        for path in FILES:
            for node in ast.walk(ast.parse(path.read_text())):
                with self.subTest(path=str(path), line=getattr(node, "lineno", 0)):
                    self.look_at(node)

    def look_at(self, node):
        self.assertNotIsInstance(node, (ast.Import, ast.Global, ast.Div, ast.AsyncFunctionDef))
        if isinstance(node, ast.ImportFrom):
            self.assertEqual(node.level, 0)
            self.assertTrue(node.module.startswith("laidround."))
        if isinstance(node, ast.FunctionDef):
            self.assertLessEqual(node.end_lineno - node.lineno + 1, 40)
        if isinstance(node, ast.Constant):
            self.assertNotIsInstance(node.value, float)
            if isinstance(node.value, str):
                self.assertNotIn("%", node.value)
        if isinstance(node, ast.Name):
            self.assertFalse(node.id.startswith("_"))
            if isinstance(node.ctx, ast.Store):
                self.assertNotIn(node.id, BUILTINS)
        if isinstance(node, ast.arg):
            self.assertFalse(node.arg.startswith("_"))
            self.assertNotIn(node.arg, BUILTINS)


if __name__ == "__main__":
    unittest.main()

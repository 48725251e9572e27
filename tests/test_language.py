"""The rules for the package's files that can be asked of their rows alone, and those of its imports."""

import ast
import re
import unittest
from pathlib import Path

PACKAGE = Path(__file__).resolve().parent.parent / "fieldclaim"
WORDS_LEFT_OUT = (
    "type typing typing_extensions enum Enum IntEnum StrEnum Flag IntFlag Generic Protocol ABC ABCMeta"
    " namedtuple NamedTuple TypedDict TYPE_CHECKING abstractmethod"
).split()
PARTS_LEFT_OUT = ("dataclass", "overload", "contextmanager")
FORMS_LEFT_OUT = (
    "With Match Delete Global Nonlocal Assert Yield YieldFrom Await AsyncFunctionDef AsyncFor AsyncWith TryStar"
    " GeneratorExp SetComp DictComp NamedExpr Starred Div MatMult"
).split()


class Language(unittest.TestCase):
    def setUp(self):
        paths = sorted(path for path in PACKAGE.rglob("*") if "__pycache__" not in path.parts)
        self.texts = {path: path.read_text(encoding="utf-8") for path in paths if path.is_file()}

    def test_files(self):
        self.assertIn(PACKAGE / "__init__.py", self.texts)
        for path in self.texts:
            self.assertRegex(path.name, r"^[a-z0-9_]+\.py$")

    def test_sizes_and_signs(self):
        for path, text in self.texts.items():
            rows = text.split("\n")
            self.assertLessEqual(len(rows), 401, path)
            for row in rows:
                self.assertRegex(row, r"^[ -~]{0,120}$", path)
            for node in ast.walk(ast.parse(text)):
                if isinstance(node, ast.FunctionDef):
                    self.assertLessEqual(node.end_lineno - node.lineno, 39, (path, node.name))

    def test_words(self):
        for path, text in self.texts.items():
            for word in re.findall(r"\w+", text):
                self.assertNotIn(word, WORDS_LEFT_OUT, path)
                self.assertFalse([part for part in PARTS_LEFT_OUT if part in word], path)

    def test_forms(self):
        for path, text in self.texts.items():
            for node in ast.walk(ast.parse(text)):
                place = (path, getattr(node, "lineno", None))
                self.assertNotIn(node.__class__.__name__, FORMS_LEFT_OUT, place)
                for part in ("decorator_list", "finalbody"):
                    self.assertFalse(getattr(node, part, []), place)
                if isinstance(node, (ast.For, ast.While)):
                    self.assertEqual(node.orelse, [], place)
                if isinstance(node, ast.Assign):
                    self.assertEqual(len(node.targets), 1, place)
                if isinstance(node, ast.ListComp):
                    self.assertEqual(len(node.generators), 1, place)
                    self.assertLessEqual(len(node.generators[0].ifs), 1, place)
                if isinstance(node, ast.Constant):
                    self.assertNotIsInstance(node.value, (float, complex, bytes), place)

    def test_imports_are_the_packages_own(self):
        for path, text in self.texts.items():
            for node in ast.walk(ast.parse(text)):
                self.assertNotIsInstance(node, ast.Import, path)
                if isinstance(node, ast.ImportFrom):
                    self.assertEqual(node.level, 0, path)
                    self.assertTrue(node.module.startswith("fieldclaim."), (path, node.module))


if __name__ == "__main__":
    unittest.main()

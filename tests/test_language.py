"""The rules of the language of the package that can be seen from its text alone."""

import ast
import re
import unittest
from pathlib import Path

PACKAGE = Path(__file__).resolve().parent.parent / "startnow"
FILES = sorted(path for path in PACKAGE.rglob("*") if "__pycache__" not in path.parts)
BUILTINS = set(
    "len range enumerate zip min max sum abs sorted reversed int str bool list tuple dict set isinstance ord repr "
    "any all divmod super ValueError".split()
)
# Words that may not stand in the code, and names that may not be given.
BARRED = re.compile(
    r"\b(type|typing|enum|Enum|Generic|Protocol|ABC|namedtuple|mro|elements|open|input|law|eval|exec|compile"
    r"|globals|locals|vars|print|hash|id|dir|exit|quit|os|_wall)\b"
)
BARRED_NODES = (ast.Div, ast.AsyncFunctionDef, ast.AsyncFor, ast.AsyncWith, ast.Await)
DECORATORS = ("property", "staticmethod", "classmethod")


def code_of(path):
    """The text of a file without its docstrings and comments."""
    tree = ast.parse(path.read_text())
    for node in ast.walk(tree):
        if isinstance(node, (ast.Module, ast.ClassDef, ast.FunctionDef)) and ast.get_docstring(node) is not None:
            node.body[0].value = ast.Constant(0)
    return ast.unparse(tree)


class Language(unittest.TestCase):
    def test_files(self):
        self.assertIn(PACKAGE / "__init__.py", FILES)
        for path in FILES:
            self.assertRegex(path.name, r"^[a-z_][a-z0-9_]*\.py$")

    def test_characters_and_sizes(self):
        for path in FILES:
            text = path.read_text(encoding="utf-8")
            lines = text.split("\n")
            with self.subTest(path.name):
                self.assertRegex(text, r"\A[ -~\n]*\Z")
                self.assertLessEqual(len(lines), 399)
                self.assertLessEqual(max(len(line) for line in lines), 120)
                for node in ast.walk(ast.parse(text)):
                    if isinstance(node, ast.FunctionDef):
                        self.assertLessEqual(node.end_lineno - node.lineno + 1, 40, node.name)

    def test_words_and_statements(self):
        for path in FILES:
            with self.subTest(path.name):
                self.assertIsNone(BARRED.search(code_of(path)))
                self.assertNotIn("%", code_of(path))
                for node in ast.walk(ast.parse(path.read_text())):
                    self.assertNotIsInstance(node, BARRED_NODES)
                    if isinstance(node, ast.Constant):
                        self.assertNotIsInstance(node.value, (float, complex))
                    if isinstance(node, (ast.FunctionDef, ast.ClassDef)):
                        for decorator in node.decorator_list:
                            self.assertIn(ast.unparse(decorator), DECORATORS)

    def test_imports_go_to_the_package_and_not_round(self):
        reached = {}
        for path in FILES:
            names = []
            for node in ast.walk(ast.parse(path.read_text())):
                self.assertNotIsInstance(node, ast.Import)
                if isinstance(node, ast.ImportFrom):
                    self.assertRegex(node.module, r"^startnow\.[a-z]+$")
                    names.append(node.module.split(".")[1])
            reached[path.stem] = names
        while reached:
            free = [name for name in reached if not any(other in reached for other in reached[name])]
            self.assertTrue(free, reached)
            for name in free:
                del reached[name]

    def test_all_that_is_imported_is_used(self):
        for path in FILES:
            tree = ast.parse(path.read_text())
            used = {node.id for node in ast.walk(tree) if isinstance(node, ast.Name)}
            named = {node.name for node in ast.walk(tree) if isinstance(node, ast.alias)}
            self.assertLessEqual(named, used, path.name)

    def test_names_that_are_not_bound_are_builtins_of_the_list(self):
        for path in FILES:
            tree = ast.parse(path.read_text())
            bound = set()
            for node in ast.walk(tree):
                if isinstance(node, (ast.FunctionDef, ast.ClassDef)):
                    bound.add(node.name)
                if isinstance(node, ast.arg):
                    bound.add(node.arg)
                if isinstance(node, ast.alias):
                    bound.add(node.name)
                if isinstance(node, ast.Name) and isinstance(node.ctx, ast.Store):
                    bound.add(node.id)
            used = {node.id for node in ast.walk(tree) if isinstance(node, ast.Name)}
            self.assertLessEqual(used - bound, BUILTINS, path.name)
            self.assertEqual(bound & BUILTINS, set(), path.name)


if __name__ == "__main__":
    unittest.main()

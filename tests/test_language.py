"""The rules of the language of the package that can be seen from its text alone."""

import ast
import re
import unittest
from pathlib import Path

PACKAGE = Path(__file__).resolve().parent.parent / "startnow"
FILES = sorted(path for path in PACKAGE.rglob("*") if "__pycache__" not in path.parts)
BUILTINS = set(
    "len range enumerate zip min max sum abs sorted reversed int str bool list tuple dict set isinstance ord repr "
    "any all divmod super ValueError TypeError property staticmethod classmethod".split()
)
OPERATORS = (
    "__init__ __eq__ __len__ __bool__ __contains__ __getitem__ __add__ __sub__ __and__ __call__ __iter__".split()
)
# Methods of lists, dicts and sets that change them.
CHANGING = "append clear extend insert pop remove reverse setdefault update sort add discard".split()
# Methods that are there to change their object; what else runs may run in an operator or a property.
STEPS = ("__init__", "read", "undo", "twin", "_come_to")
# Words that may not stand in the code, and names that may not be given.
BARRED = re.compile(
    r"\b(type|typing|enum|Enum|Generic|Protocol|ABC|namedtuple|mro|elements|open|input|law|eval|exec|compile"
    r"|globals|locals|vars|print|hash|id|dir|exit|quit|os|_wall)\b"
)
BARRED_NODES = (ast.Div, ast.AsyncFunctionDef, ast.AsyncFor, ast.AsyncWith, ast.Await)
DECORATORS = ("property", "staticmethod", "classmethod")


def code_of(path):
    """The text of a file without its docstrings and comments."""
    tree = ast.parse(path.read_text())
    for node in ast.walk(tree):
        if isinstance(node, (ast.Module, ast.ClassDef, ast.FunctionDef)) and ast.get_docstring(node) is not None:
            node.body[0].value = ast.Constant(0)
    return ast.unparse(tree)


class Language(unittest.TestCase):
    def test_files(self):
        self.assertIn(PACKAGE / "__init__.py", FILES)
        for path in FILES:
            self.assertRegex(path.name, r"^[a-z_][a-z0-9_]*\.py$")

    def test_characters_and_sizes(self):
        for path in FILES:
            text = path.read_text(encoding="utf-8")
            lines = text.split("\n")
            with self.subTest(path.name):
                self.assertRegex(text, r"\A[ -~\n]*\Z")
                self.assertLessEqual(len(lines), 399)
                self.assertLessEqual(max(len(line) for line in lines), 120)
                for node in ast.walk(ast.parse(text)):
                    if isinstance(node, ast.FunctionDef):
                        self.assertLessEqual(node.end_lineno - node.lineno + 1, 40, node.name)

    def test_words_and_statements(self):
        for path in FILES:
            with self.subTest(path.name):
                self.assertIsNone(BARRED.search(code_of(path)))
                self.assertNotIn("%", code_of(path))
                for node in ast.walk(ast.parse(path.read_text())):
                    self.assertNotIsInstance(node, BARRED_NODES)
                    if isinstance(node, ast.Constant):
                        self.assertNotIsInstance(node.value, (float, complex))
                    if isinstance(node, (ast.FunctionDef, ast.ClassDef)):
                        for decorator in node.decorator_list:
                            self.assertIn(ast.unparse(decorator), DECORATORS)

    def test_imports_go_to_the_package_and_not_round(self):
        reached = {}
        for path in FILES:
            names = []
            for node in ast.walk(ast.parse(path.read_text())):
                self.assertNotIsInstance(node, ast.Import)
                if isinstance(node, ast.ImportFrom):
                    self.assertRegex(node.module, r"^startnow\.[a-z]+$")
                    names.append(node.module.split(".")[1])
            reached[path.stem] = names
        while reached:
            free = [name for name in reached if not any(other in reached for other in reached[name])]
            self.assertTrue(free, reached)
            for name in free:
                del reached[name]

    def test_all_that_is_imported_is_used(self):
        for path in FILES:
            tree = ast.parse(path.read_text())
            used = {node.id for node in ast.walk(tree) if isinstance(node, ast.Name)}
            named = {node.name for node in ast.walk(tree) if isinstance(node, ast.alias)}
            self.assertLessEqual(named, used, path.name)

    def test_names_that_are_not_bound_are_builtins_of_the_list(self):
        for path in FILES:
            tree = ast.parse(path.read_text())
            bound = set()
            for node in ast.walk(tree):
                if isinstance(node, (ast.FunctionDef, ast.ClassDef)):
                    bound.add(node.name)
                if isinstance(node, ast.arg):
                    bound.add(node.arg)
                if isinstance(node, ast.alias):
                    bound.add(node.name)
                if isinstance(node, ast.Name) and isinstance(node.ctx, ast.Store):
                    bound.add(node.id)
            used = {node.id for node in ast.walk(tree) if isinstance(node, ast.Name)}
            self.assertLessEqual(used - bound, BUILTINS, path.name)
            self.assertEqual(bound & BUILTINS, set(), path.name)


def functions_of(path):
    return [node for node in ast.walk(ast.parse(path.read_text())) if isinstance(node, ast.FunctionDef)]


def is_new(value):
    """Whether an expression makes a list or a dict of its own."""
    return isinstance(value, (ast.List, ast.Dict, ast.ListComp, ast.DictComp))


def changed_names(function):
    """The expressions whose items, attributes or members a function changes."""
    for node in ast.walk(function):
        if isinstance(node, (ast.Subscript, ast.Attribute)) and not isinstance(node.ctx, ast.Load):
            yield node.value
        if isinstance(node, ast.Call) and isinstance(node.func, ast.Attribute) and node.func.attr in CHANGING:
            yield node.func.value


class Operators(unittest.TestCase):
    """The rules for packages in which a class has operators and properties."""

    def test_methods_with_two_underscores(self):
        for path in FILES:
            for function in functions_of(path):
                if function.name.startswith("__"):
                    self.assertIn(function.name, OPERATORS)

    def test_classes_with_items_say_that_they_are_not_iterated_over(self):
        for path in FILES:
            for node in ast.walk(ast.parse(path.read_text())):
                if isinstance(node, ast.ClassDef):
                    names = {part.name: part for part in node.body if isinstance(part, ast.FunctionDef)}
                    self.assertEqual("__getitem__" in names, "__iter__" in names, node.name)
                    if "__iter__" in names:
                        self.assertRegex(ast.unparse(names["__iter__"].body[0]), r"^raise TypeError\('.*'\)$")

    def test_forms_of_equality_and_length(self):
        for path in FILES:
            for function in functions_of(path):
                rows = [ast.unparse(row) for row in function.body if not isinstance(row, ast.Expr)]
                if function.name == "__eq__":
                    self.assertRegex(rows[0], r"^if not isinstance\(other, [A-Z][a-z]+\):\n    return False$")
                if function.name == "__len__":
                    self.assertEqual(len(rows), 1)
                    self.assertRegex(rows[0], r"^return len\(")

    def test_nothing_is_changed_that_a_function_did_not_make(self):
        for path in FILES:
            for function in functions_of(path):
                made = {}
                for node in ast.walk(function):
                    if isinstance(node, ast.Assign) and isinstance(node.targets[0], ast.Name):
                        made.setdefault(node.targets[0].id, []).append(is_new(node.value))
                for value in changed_names(function) if function.name not in STEPS else ():
                    # Lists in a dict of lists that were made here may be changed, too.
                    name = value.value if isinstance(value, ast.Subscript) else value
                    self.assertIsInstance(name, ast.Name, (path.name, function.name))
                    self.assertTrue(all(made.get(name.id, [False])), (path.name, function.name, name.id))

    def test_what_is_not_used_beside_operators(self):
        for path in FILES:
            for node in ast.walk(ast.parse(path.read_text())):
                self.assertNotIsInstance(
                    node, (ast.GeneratorExp, ast.Yield, ast.Try, ast.AugAssign, ast.Set), path.name,
                )
                if isinstance(node, ast.Attribute):
                    self.assertNotIn(node.attr, ("sort", "keys"))


if __name__ == "__main__":
    unittest.main()

"""The plain part of Python that the package keeps to, as far as the syntax shows it."""

import ast
import builtins
import pathlib
import unittest

FOLDER = pathlib.Path(__file__).parent.parent / "awaitrounds"
FILES = sorted(FOLDER.rglob("*.py"))
BUILTINS = {
    "len", "range", "enumerate", "zip", "min", "max", "sum", "abs", "sorted", "reversed", "int", "str", "bool", "list",
    "tuple", "dict", "set", "isinstance", "ord", "repr", "any", "all", "divmod", "super", "ValueError", "KeyError",
    "ZeroDivisionError", "NotImplemented", "TypeError", "LookupError", "IndexError", "Exception",
}
METHODS = {"__init__", "__eq__", "__len__"}
BARRED = (
    ast.AsyncFunctionDef, ast.Await, ast.GeneratorExp, ast.Global, ast.Import, ast.JoinedStr, ast.Lambda, ast.Match,
    ast.NamedExpr, ast.Nonlocal, ast.Try, ast.With, ast.Yield, ast.YieldFrom, ast.Div, ast.MatMult, ast.AnnAssign,
)


class Language(unittest.TestCase):
    def trees(self):
        for path in FILES:
            yield path, ast.parse(path.read_text("ascii"), str(path))

    def test_files(self):
        self.assertGreaterEqual(len(FILES), 7)
        for path in FOLDER.rglob("*"):
            if "__pycache__" not in path.parts:
                self.assertIn(path.suffix, ("", ".py"))
        for path in FILES:
            text = path.read_bytes().decode("ascii")
            self.assertTrue(all(" " <= sign <= "~" or sign == "\n" for sign in text), path)
            self.assertLessEqual(text.count("\n"), 399, path)
            self.assertLessEqual(max(map(len, text.split("\n"))), 120, path)

    def test_statements(self):
        for path, tree in self.trees():
            for node in ast.walk(tree):
                self.assertNotIsInstance(node, BARRED, path)
                if isinstance(node, ast.Constant):
                    self.assertNotIsInstance(node.value, (float, complex, bytes), path)
                    self.assertFalse(isinstance(node.value, str) and "%" in node.value, path)

    def test_functions(self):
        for path, tree in self.trees():
            for node in ast.walk(tree):
                if isinstance(node, (ast.FunctionDef, ast.ClassDef)):
                    self.assertEqual(node.decorator_list, [], path)
                if isinstance(node, ast.FunctionDef):
                    self.assertLessEqual(node.end_lineno - node.lineno + 1, 40, node.name)
                    if node.name.startswith("__"):
                        self.assertIn(node.name, METHODS)

    def test_imports(self):
        modules = {f"awaitrounds.{path.stem}" for path in FILES}
        reached = {}
        for path, tree in self.trees():
            own = reached.setdefault(f"awaitrounds.{path.stem}", set())
            for node in tree.body:
                if isinstance(node, ast.ImportFrom):
                    self.assertIn(node.module, modules)
                    self.assertEqual([node.level, [name for name in node.names if name.asname]], [0, []])
                    own.add(node.module)
        for _ in reached:
            for own in reached.values():
                own.update(*[reached[name] for name in own])
        self.assertEqual([name for name, own in reached.items() if name in own], [])

    def test_names(self):
        for path, tree in self.trees():
            for node in ast.walk(tree):
                if isinstance(node, ast.Name) and hasattr(builtins, node.id):
                    self.assertIn(node.id, BUILTINS, path)
                    self.assertIsInstance(node.ctx, ast.Load, path)
                if isinstance(node, ast.arg) or (isinstance(node, ast.FunctionDef) and node.name not in METHODS):
                    name = node.arg if isinstance(node, ast.arg) else node.name
                    self.assertFalse(hasattr(builtins, name), name)

"""The plain part of Python that the package keeps to, as far as the syntax shows it."""

import ast
import builtins
import pathlib
import unittest

FOLDER = pathlib.Path(__file__).parent.parent / "awaitrounds"
FILES = sorted(FOLDER.rglob("*.py"))
BUILTINS = {
    "len", "range", "enumerate", "zip", "min", "max", "sum", "abs", "sorted", "reversed", "int", "str", "bool", "list",
    "tuple", "dict", "set", "isinstance", "ord", "repr", "any", "all", "divmod", "super", "ValueError", "KeyError",
    "ZeroDivisionError", "NotImplemented", "TypeError", "LookupError", "IndexError", "Exception",
}
METHODS = {"__init__", "__eq__", "__len__"}
# What may be imported from outside of the package; it is only called, by its bare name and with plain arguments.
LIBRARY = {
    "heapq": {"heapify", "heappop", "heappush", "heappushpop", "heapreplace"},
    "math": {"comb", "factorial", "gcd", "isqrt", "lcm", "perm"},
}
BARRED = (
    ast.AsyncFunctionDef, ast.Await, ast.GeneratorExp, ast.Global, ast.Import, ast.JoinedStr, ast.Match,
    ast.NamedExpr, ast.Nonlocal, ast.Try, ast.With, ast.Yield, ast.YieldFrom, ast.Div, ast.MatMult, ast.AnnAssign,
)


class Language(unittest.TestCase):
    def trees(self):
        for path in FILES:
            yield path, ast.parse(path.read_text("ascii"), str(path))

    def test_files(self):
        self.assertGreaterEqual(len(FILES), 14)
        for path in FOLDER.rglob("*"):
            if "__pycache__" not in path.parts:
                self.assertIn(path.suffix, ("", ".py"))
        for path in FILES:
            text = path.read_bytes().decode("ascii")
            self.assertTrue(all(" " <= sign <= "~" or sign == "\n" for sign in text), path)
            self.assertLessEqual(text.count("\n"), 399, path)
            self.assertLessEqual(max(map(len, text.split("\n"))), 120, path)

    def test_statements(self):
        for path, tree in self.trees():
            for node in ast.walk(tree):
                self.assertNotIsInstance(node, BARRED, path)
                if isinstance(node, ast.Constant):
                    self.assertNotIsInstance(node.value, (float, complex, bytes), path)
                    self.assertFalse(isinstance(node.value, str) and "%" in node.value, path)

    def test_functions(self):
        for path, tree in self.trees():
            for node in ast.walk(tree):
                if isinstance(node, (ast.FunctionDef, ast.ClassDef)):
                    self.assertEqual(node.decorator_list, [], path)
                if isinstance(node, ast.FunctionDef):
                    self.assertLessEqual(node.end_lineno - node.lineno + 1, 40, node.name)
                    if node.name.startswith("__"):
                        self.assertIn(node.name, METHODS)

    def test_imports(self):
        modules = {f"awaitrounds.{path.stem}" for path in FILES}
        reached = {}
        for path, tree in self.trees():
            own = reached.setdefault(f"awaitrounds.{path.stem}", set())
            for node in tree.body:
                if isinstance(node, ast.ImportFrom):
                    self.assertEqual([node.level, [name for name in node.names if name.asname]], [0, []])
                    if node.module in LIBRARY:
                        self.assertLessEqual({name.name for name in node.names}, LIBRARY[node.module])
                        continue
                    self.assertIn(node.module, modules)
                    own.add(node.module)
        for _ in reached:
            for own in reached.values():
                own.update(*[reached[name] for name in own])
        self.assertEqual([name for name, own in reached.items() if name in own], [])

    def test_library(self):
        for path, tree in self.trees():
            calls = [node for node in ast.walk(tree) if isinstance(node, ast.Call) and isinstance(node.func, ast.Name)]
            for node in tree.body:
                if isinstance(node, ast.ImportFrom) and node.module in LIBRARY:
                    for name in [name.name for name in node.names]:
                        used = [use for use in ast.walk(tree) if isinstance(use, ast.Name) and use.id == name]
                        called = [call for call in calls if call.func.id == name]
                        self.assertEqual([call.func for call in called], used, path)
                        self.assertEqual([call.keywords for call in called], [[] for call in called], path)
                        self.assertGreater(len(used), 0, path)

    def test_imports_are_used_and_names_are_bound_once(self):
        for path, tree in self.trees():
            imported = [name.name for node in tree.body if isinstance(node, ast.ImportFrom) for name in node.names]
            defined = [node.name for node in tree.body if isinstance(node, (ast.FunctionDef, ast.ClassDef))]
            defined += [target.id for node in tree.body if isinstance(node, ast.Assign) for target in node.targets]
            self.assertEqual(len(imported + defined), len(set(imported + defined)), path)
            used = {node.id for node in ast.walk(tree) if isinstance(node, ast.Name)}
            self.assertLessEqual(set(imported), used, path)
            classes = {node.name for node in tree.body if isinstance(node, ast.ClassDef)}
            for node in ast.walk(tree):
                name = node.arg if isinstance(node, ast.arg) else None
                if isinstance(node, ast.Name) and isinstance(node.ctx, ast.Store):
                    name = node.id
                self.assertNotIn(name, classes | set(imported), path)

    def test_names(self):
        for path, tree in self.trees():
            for node in ast.walk(tree):
                if isinstance(node, ast.Name) and hasattr(builtins, node.id):
                    self.assertIn(node.id, BUILTINS, path)
                    self.assertIsInstance(node.ctx, ast.Load, path)
                if isinstance(node, ast.arg) or (isinstance(node, ast.FunctionDef) and node.name not in METHODS):
                    name = node.arg if isinstance(node, ast.arg) else node.name
                    self.assertFalse(hasattr(builtins, name), name)

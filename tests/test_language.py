"""The plain part of Python that the package keeps to, as far as the syntax shows it."""

import ast
import builtins
import pathlib
import unittest

FOLDER = pathlib.Path(__file__).parent.parent / "awaitrounds"
FILES = sorted(FOLDER.rglob("*.py"))
BUILTINS = {
    "len", "range", "enumerate", "zip", "min", "max", "sum", "abs", "sorted", "reversed", "int", "str", "bool", "list",
    "tuple", "dict", "set", "isinstance", "ord", "repr", "any", "all", "divmod", "super", "ValueError", "KeyError",
    "ZeroDivisionError", "NotImplemented", "TypeError", "LookupError", "IndexError", "Exception",
}
METHODS = {"__init__", "__eq__", "__len__"}
# What may be imported from outside of the package; it is only called, by its bare name and with plain arguments.
LIBRARY = {
    "heapq": {"heapify", "heappop", "heappush", "heappushpop", "heapreplace"},
    "math": {"comb", "factorial", "gcd", "isqrt", "lcm", "perm"},
}
BARRED = (
    ast.AsyncFunctionDef, ast.Await, ast.GeneratorExp, ast.Global, ast.Import, ast.JoinedStr, ast.Match,
    ast.NamedExpr, ast.Nonlocal, ast.TryStar, ast.With, ast.Yield, ast.YieldFrom, ast.Div, ast.MatMult, ast.AnnAssign,
)
# The methods of plain values that may be called; the methods of the package are read from its classes.
PLAIN_METHODS = {
    "append", "copy", "count", "endswith", "extend", "find", "get", "index", "insert", "items", "join", "keys", "pop",
    "remove", "replace", "reverse", "setdefault", "split", "startswith", "strip", "update", "values", "bit_length",
}
TAKES_LISTS = {"any", "all", "min", "max", "sum", "sorted"}


class Language(unittest.TestCase):
    def trees(self):
        for path in FILES:
            yield path, ast.parse(path.read_text("ascii"), str(path))

    def test_files(self):
        self.assertGreaterEqual(len(FILES), 19)
        for path in FOLDER.rglob("*"):
            if "__pycache__" not in path.parts:
                self.assertIn(path.suffix, ("", ".py"))
        for path in FILES:
            text = path.read_bytes().decode("ascii")
            self.assertTrue(all(" " <= sign <= "~" or sign == "\n" for sign in text), path)
            self.assertLessEqual(text.count("\n"), 399, path)
            self.assertLessEqual(max(map(len, text.split("\n"))), 120, path)

    def test_statements(self):
        for path, tree in self.trees():
            for node in ast.walk(tree):
                self.assertNotIsInstance(node, BARRED, path)
                if isinstance(node, ast.Constant):
                    self.assertNotIsInstance(node.value, (float, complex, bytes), path)
                    self.assertFalse(isinstance(node.value, str) and "%" in node.value, path)

    def test_tries(self):
        """Only own errors are caught, and what is done at last is to put names and attributes back."""
        tree = ast.parse((FOLDER / "errors.py").read_text("ascii"))
        errors = {node.name for node in tree.body if isinstance(node, ast.ClassDef)}
        for path, tree in self.trees():
            for node in ast.walk(tree):
                if isinstance(node, ast.Try):
                    for handler in node.handlers:
                        self.assertIn(ast.unparse(handler.type), errors, path)
                    for row in node.finalbody:
                        self.assertIsInstance(row, ast.Assign, path)
                        self.assertTrue(all(isinstance(part, (ast.Attribute, ast.Name, ast.Load, ast.Store))
                                            for item in (*row.targets, row.value) for part in ast.walk(item)), path)

    def test_methods_that_are_called(self):
        own = {row.name for path, tree in self.trees() for node in tree.body if isinstance(node, ast.ClassDef)
               for row in node.body if isinstance(row, ast.FunctionDef)}
        for path, tree in self.trees():
            for node in ast.walk(tree):
                if isinstance(node, ast.Call) and isinstance(node.func, ast.Attribute):
                    self.assertIn(node.func.attr, own | PLAIN_METHODS, path)
                if isinstance(node, ast.Call) and isinstance(node.func, ast.Name) and node.func.id in TAKES_LISTS:
                    self.assertNotIsInstance(node.args[0], ast.GeneratorExp, path)

    def test_names_of_methods_and_attributes(self):
        """No name is a method and an attribute in one class, and each attribute that is read is assigned somewhere."""
        assigned, read, methods = set(), set(), set()
        for path, tree in self.trees():
            for node in tree.body:
                if isinstance(node, ast.ClassDef):
                    rows = {row.name for row in node.body if isinstance(row, ast.FunctionDef)}
                    own = {use.attr for use in ast.walk(node) if isinstance(use, ast.Attribute)
                           and isinstance(use.ctx, ast.Store) and isinstance(use.value, ast.Name)
                           and use.value.id == "self"}
                    self.assertEqual(rows & own, set(), path)
                    assigned |= own
                    methods |= rows
            read |= {use.attr for use in ast.walk(tree) if isinstance(use, ast.Attribute)}
        self.assertLessEqual(read, assigned | methods | PLAIN_METHODS)

    def test_special_methods(self):
        """Lengths are plain lengths."""
        for path, tree in self.trees():
            for node in ast.walk(tree):
                if isinstance(node, ast.FunctionDef) and node.name == "__len__":
                    self.assertRegex(ast.unparse(node.body[-1]), r"^return len\(.*\)$")

    def test_functions(self):
        for path, tree in self.trees():
            for node in ast.walk(tree):
                if isinstance(node, (ast.FunctionDef, ast.ClassDef)):
                    self.assertEqual(node.decorator_list, [], path)
                if isinstance(node, ast.FunctionDef):
                    self.assertLessEqual(node.end_lineno - node.lineno + 1, 40, node.name)
                    if node.name.startswith("__"):
                        self.assertIn(node.name, METHODS)

    def test_imports(self):
        modules = {f"awaitrounds.{path.stem}" for path in FILES}
        reached = {}
        for path, tree in self.trees():
            own = reached.setdefault(f"awaitrounds.{path.stem}", set())
            for node in tree.body:
                if isinstance(node, ast.ImportFrom):
                    self.assertEqual([node.level, [name for name in node.names if name.asname]], [0, []])
                    if node.module in LIBRARY:
                        self.assertLessEqual({name.name for name in node.names}, LIBRARY[node.module])
                        continue
                    self.assertIn(node.module, modules)
                    own.add(node.module)
        for _ in reached:
            for own in reached.values():
                own.update(*[reached[name] for name in own])
        self.assertEqual([name for name, own in reached.items() if name in own], [])

    def test_library(self):
        for path, tree in self.trees():
            calls = [node for node in ast.walk(tree) if isinstance(node, ast.Call) and isinstance(node.func, ast.Name)]
            for node in tree.body:
                if isinstance(node, ast.ImportFrom) and node.module in LIBRARY:
                    for name in [name.name for name in node.names]:
                        used = [use for use in ast.walk(tree) if isinstance(use, ast.Name) and use.id == name]
                        called = [call for call in calls if call.func.id == name]
                        self.assertEqual([call.func for call in called], used, path)
                        self.assertEqual([call.keywords for call in called], [[] for call in called], path)
                        self.assertGreater(len(used), 0, path)

    def test_imports_are_used_and_names_are_bound_once(self):
        for path, tree in self.trees():
            imported = [name.name for node in tree.body if isinstance(node, ast.ImportFrom) for name in node.names]
            defined = [node.name for node in tree.body if isinstance(node, (ast.FunctionDef, ast.ClassDef))]
            defined += [target.id for node in tree.body if isinstance(node, ast.Assign) for target in node.targets]
            self.assertEqual(len(imported + defined), len(set(imported + defined)), path)
            used = {node.id for node in ast.walk(tree) if isinstance(node, ast.Name)}
            self.assertLessEqual(set(imported), used, path)
            classes = {node.name for node in tree.body if isinstance(node, ast.ClassDef)}
            for node in ast.walk(tree):
                name = node.arg if isinstance(node, ast.arg) else None
                if isinstance(node, ast.Name) and isinstance(node.ctx, ast.Store):
                    name = node.id
                self.assertNotIn(name, classes | set(imported), path)

    def test_names(self):
        for path, tree in self.trees():
            for node in ast.walk(tree):
                if isinstance(node, ast.Name) and hasattr(builtins, node.id):
                    self.assertIn(node.id, BUILTINS, path)
                    self.assertIsInstance(node.ctx, ast.Load, path)
                if isinstance(node, ast.arg) or (isinstance(node, ast.FunctionDef) and node.name not in METHODS):
                    name = node.arg if isinstance(node, ast.arg) else node.name
                    self.assertFalse(hasattr(builtins, name), name)

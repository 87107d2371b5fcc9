"""Some of the rules for the files of the package that a test can see."""

import ast
import builtins
import os
import unittest

TOP = os.path.dirname(os.path.dirname(os.path.abspath(__file__)))
PACKAGE = os.path.join(TOP, "chancegrain")
LIBRARY = {
    "math": {"gcd", "lcm", "isqrt", "comb", "perm", "factorial"},
    "itertools": {"product", "combinations", "permutations"},
}
BARRED = (
    ast.GeneratorExp, ast.Global, ast.AsyncFunctionDef, ast.Await, ast.Import, ast.Yield, ast.YieldFrom, ast.Div,
    ast.AnnAssign,
)
BUILTINS = set(
    "len range enumerate zip min max sum abs sorted reversed int str bool list tuple dict set isinstance ord repr"
    " any all divmod ValueError".split()
)
WORDS = set("type typing enum Enum ABC Flag Generic Protocol register mro elements open law".split())


def files():
    found = {}
    for name in sorted(os.listdir(PACKAGE)):
        if name != "__pycache__":
            with open(os.path.join(PACKAGE, name), encoding="utf-8") as file:
                found[name] = file.read()
    return found


def trees():
    return {name: ast.parse(text) for name, text in files().items()}


def module_names(tree):
    found = {part.name for part in tree.body if hasattr(part, "name")}
    for part in tree.body:
        if isinstance(part, ast.Assign):
            found.update(target.id for target in part.targets)
    return found


def bound_names(tree):
    found = set()
    for node in ast.walk(tree):
        if isinstance(node, (ast.FunctionDef, ast.ClassDef)):
            found.add(node.name)
        elif isinstance(node, ast.arg):
            found.add(node.arg)
        elif isinstance(node, ast.Name) and isinstance(node.ctx, ast.Store):
            found.add(node.id)
        elif isinstance(node, ast.ImportFrom):
            found.update(alias.name for alias in node.names)
    return found


class Language(unittest.TestCase):
    def test_files(self):
        for name, text in files().items():
            self.assertRegex(name, r"^[a-z0-9_]+\.py$")
            self.assertLessEqual(len(text.split("\n")), 400, name)
            self.assertTrue(text.isascii(), name)
            self.assertNotIn("\t", text, name)
            self.assertNotIn("%s", text, name)
            for line in text.split("\n"):
                self.assertLessEqual(len(line), 120, name)

    def test_functions(self):
        for name, tree in trees().items():
            for node in ast.walk(tree):
                self.assertNotIsInstance(node, BARRED, (name, getattr(node, "lineno", 0)))
                if isinstance(node, ast.FunctionDef):
                    self.assertLessEqual(node.end_lineno - node.lineno + 1, 40, (name, node.name))
                    self.assertFalse(node.decorator_list, (name, node.name))

    def test_imports(self):
        for name, tree in trees().items():
            for node in ast.walk(tree):
                if isinstance(node, ast.ImportFrom):
                    names = {alias.name for alias in node.names}
                    if node.module in LIBRARY:
                        self.assertLessEqual(names, LIBRARY[node.module], name)
                        continue
                    self.assertTrue(node.module.startswith("chancegrain."), (name, node.module))
                    source = trees()[node.module.split(".")[1] + ".py"]
                    self.assertLessEqual(names, module_names(source), name)
                    self.assertFalse([alias for alias in node.names if alias.asname], name)

    def test_imports_are_used(self):
        for name, tree in trees().items():
            read = {node.id for node in ast.walk(tree) if isinstance(node, ast.Name)}
            for node in tree.body:
                if isinstance(node, ast.ImportFrom):
                    for alias in node.names:
                        self.assertIn(alias.name, read, name)

    def test_names(self):
        # The examples, run as at a prompt, leave a _ among the builtins.
        known = set(dir(builtins)) - {"_"}
        for name, tree in trees().items():
            bound = bound_names(tree) - {"__init__"}
            self.assertFalse(bound & (known | WORDS), name)
            read = {node.id for node in ast.walk(tree) if isinstance(node, ast.Name)}
            self.assertLessEqual((read - bound) & known, BUILTINS, name)
            imported = {alias.name for node in tree.body if isinstance(node, ast.ImportFrom) for alias in node.names}
            for function in ast.walk(tree):
                if isinstance(function, ast.FunctionDef):
                    local = {node.arg for node in ast.walk(function) if isinstance(node, ast.arg)}
                    local |= {node.id for node in ast.walk(function)
                              if isinstance(node, ast.Name) and isinstance(node.ctx, ast.Store)}
                    self.assertFalse(local & imported, (name, function.name))

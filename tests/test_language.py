"""That the package keeps to those rules of the language that can be told at a glance."""

import ast
import builtins
import pathlib
import re
import unittest

PACKAGE = pathlib.Path(__file__).resolve().parent.parent / "movedwhole"
LIBRARY = {"heapq", "math", "itertools", "collections"}
BUILTINS = {
    "len", "range", "enumerate", "zip", "min", "max", "sum", "abs", "sorted", "reversed", "int", "str", "bool",
    "list", "tuple", "dict", "set", "isinstance", "ord", "repr", "any", "all", "divmod", "map", "ValueError",
}
BARRED = (ast.Yield, ast.YieldFrom, ast.Global, ast.Div, ast.AsyncFunctionDef, ast.Import, ast.AnnAssign)


def files():
    return sorted(path for path in PACKAGE.rglob("*") if "__pycache__" not in path.parts)


def trees():
    for path in files():
        yield path, ast.parse(path.read_text())


def imports_of(tree):
    return [node for node in tree.body if isinstance(node, ast.ImportFrom)]


class LanguageTest(unittest.TestCase):

    def test_files(self):
        for path in files():
            self.assertRegex(path.name, "^[a-z_][a-z0-9_]*[.]py$")
            lines = path.read_text().split("\n")
            self.assertLessEqual(len(lines), 400, path.name)
            for line in lines:
                self.assertLessEqual(len(line), 120, path.name)
                self.assertTrue(re.fullmatch("[ -~]*", line), line)
                self.assertNotIn("%", line)

    def test_functions_are_short(self):
        for path, tree in trees():
            for node in ast.walk(tree):
                if isinstance(node, ast.FunctionDef):
                    self.assertLessEqual(node.end_lineno - node.lineno + 1, 40, (path.name, node.name))
                    self.assertEqual(node.decorator_list, [])

    def test_nothing_that_is_barred(self):
        for path, tree in trees():
            for node in ast.walk(tree):
                self.assertNotIsInstance(node, BARRED, (path.name, getattr(node, "lineno", 0)))
                self.assertFalse(isinstance(node, ast.Constant) and isinstance(node.value, float))
                # Clusters have an ==, and so these take lists.
                self.assertNotIsInstance(node, ast.GeneratorExp, (path.name, getattr(node, "lineno", 0)))

    def test_only_builtins_that_may_be_used(self):
        # A doctest that ran ahead may have left a "_" there.
        every = {name for name in dir(builtins) if name != "_"}
        for path, tree in trees():
            for node in ast.walk(tree):
                if isinstance(node, ast.Name) and node.id in every:
                    allowed = BUILTINS if isinstance(node.ctx, ast.Load) else set()
                    self.assertIn(node.id, allowed, (path.name, node.lineno))
                elif isinstance(node, (ast.arg, ast.FunctionDef, ast.ClassDef)):
                    self.assertNotIn(node.arg if isinstance(node, ast.arg) else node.name, every, path.name)

    def test_imports_name_what_the_very_file_defines_and_go_in_no_circle(self):
        defined, ahead = {}, {}
        for path, tree in trees():
            names = {node.name for node in tree.body if isinstance(node, (ast.FunctionDef, ast.ClassDef))}
            names |= {name.id for node in tree.body if isinstance(node, ast.Assign) for name in node.targets}
            defined[f"movedwhole.{path.stem}"] = names
        for path, tree in trees():
            for node in imports_of(tree):
                self.assertEqual(node.level, 0)
                if node.module in LIBRARY:
                    continue
                ahead.setdefault(f"movedwhole.{path.stem}", set()).add(node.module)
                for alias in node.names:
                    self.assertIsNone(alias.asname)
                    self.assertIn(alias.name, defined[node.module], (path.name, alias.name))
        left = set(defined)
        while left:
            free = {name for name in left if not ahead.get(name, set()) & left}
            self.assertTrue(free, left)
            left -= free


if __name__ == "__main__":
    unittest.main()

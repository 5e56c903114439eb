"""What can be seen simply of the rules that the package's files keep (../shared/LANGUAGE.md)."""

import ast
import unittest
from pathlib import Path

PACKAGE = Path(__file__).resolve().parent.parent / "callsdown"
LIBRARY = {"__future__", "heapq", "math", "itertools", "collections"}
BUILTINS = set(
    "len range enumerate zip min max sum abs sorted reversed int str bool list tuple dict set isinstance ord repr any "
    "all divmod iter next map super property staticmethod classmethod NotImplemented Exception ValueError TypeError "
    "KeyError IndexError LookupError ZeroDivisionError ArithmeticError OverflowError RuntimeError StopIteration "
    "NotImplementedError".split()
)
EVERY_BUILTIN = set(dir(__builtins__) if not isinstance(__builtins__, dict) else __builtins__)
AT_MODULE_LEVEL = (ast.Import, ast.ImportFrom, ast.FunctionDef, ast.ClassDef, ast.Assign)
WALKED = ("range", "zip", "enumerate", "reversed")
VIEWS = ("items", "keys", "values")
WALKERS = ("list", "tuple", "dict", "sorted", "sum", "any", "all", "min", "max")
BARRED = (ast.Global, ast.AsyncFunctionDef, ast.Await, ast.Div, ast.Set) + ((ast.TryStar,) if hasattr(ast, "TryStar") else ())


def files():
    """Each file of the package: its path, its text, and its tree."""
    found = sorted(path for path in PACKAGE.rglob("*") if path.is_file() and path.suffix != ".pyc")
    return [(path, path.read_text("utf-8"), ast.parse(path.read_text("utf-8"))) for path in found]


def walked_name(node):
    """What the call gives that is to be walked on the spot, or None."""
    if isinstance(node, ast.Call) and isinstance(node.func, ast.Name) and node.func.id in WALKED:
        return node.func.id
    if isinstance(node, ast.Call) and isinstance(node.func, ast.Attribute) and node.func.attr in VIEWS and not node.args:
        return node.func.attr
    return None


def walks_at_once(parent, node):
    """Whether the node stands in its parent where it is walked on the spot."""
    if isinstance(parent, (ast.For, ast.comprehension)):
        return parent.iter is node
    if isinstance(parent, ast.Compare):
        return isinstance(parent.ops[0], (ast.In, ast.NotIn)) and parent.left is not node
    if isinstance(parent, ast.Call) and isinstance(parent.func, ast.Name) and node in parent.args:
        if parent.func.id in ("len", "reversed"):
            return walked_name(node) == "range"
        return parent.func.id in ("enumerate", "zip") or parent.func.id in WALKERS and parent.args[0] is node
    return False


class Language(unittest.TestCase):
    def test_files_lines_and_characters(self):
        for path, text, _ in files():
            with self.subTest(path=path.name):
                self.assertRegex(path.name, r"^[a-z0-9_]+\.py$")
                self.assertLessEqual(len(text.splitlines()), 399)
                self.assertLessEqual(max(map(len, text.splitlines()), default=0), 120)
                self.assertEqual([sign for sign in text if sign != "\n" and not " " <= sign <= "~"], [])

    def test_functions_have_at_most_40_lines(self):
        for path, _, tree in files():
            for node in ast.walk(tree):
                if isinstance(node, ast.FunctionDef):
                    self.assertLessEqual(node.end_lineno - node.lineno + 1, 40, (path.name, node.name))

    def test_module_level(self):
        for path, _, tree in files():
            for node in tree.body:
                docstring = isinstance(node, ast.Expr) and isinstance(node.value, ast.Constant)
                self.assertTrue(docstring or isinstance(node, AT_MODULE_LEVEL), (path.name, node.lineno))

    def test_imports_name_the_file_that_defines(self):
        defined = {}
        for path, _, tree in files():
            names = [node.name for node in tree.body if isinstance(node, (ast.FunctionDef, ast.ClassDef))]
            names += [one.id for node in tree.body if isinstance(node, ast.Assign) for one in node.targets]
            defined["callsdown." + path.stem] = names
        for path, _, tree in files():
            for node in ast.walk(tree):
                self.assertNotIsInstance(node, ast.Import, path.name)
                if isinstance(node, ast.ImportFrom) and node.module not in LIBRARY:
                    for name in node.names:
                        self.assertIn(name.name, defined[node.module], (path.name, node.lineno))

    def test_builtins_and_barred_parts(self):
        for path, _, tree in files():
            for node in ast.walk(tree):
                self.assertNotIsInstance(node, BARRED, path.name)
                if isinstance(node, ast.Constant):
                    self.assertNotIsInstance(node.value, (float, complex), (path.name, node.lineno))
                if isinstance(node, ast.Name) and node.id in EVERY_BUILTIN and node.id != "type":
                    self.assertIn(node.id, BUILTINS, (path.name, node.lineno))
                    self.assertIsInstance(node.ctx, ast.Load, (path.name, node.lineno))
                if isinstance(node, ast.arg):
                    self.assertNotIn(node.arg, EVERY_BUILTIN, (path.name, node.lineno))

    def test_ranges_and_their_kin_are_walked_on_the_spot(self):
        walked = 0
        for path, _, tree in files():
            for parent in ast.walk(tree):
                for node in ast.iter_child_nodes(parent):
                    if walked_name(node):
                        walked += 1
                        self.assertTrue(walks_at_once(parent, node), (path.name, node.lineno))
        self.assertGreater(walked, 10)


if __name__ == "__main__":
    unittest.main()

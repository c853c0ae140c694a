"""Some of the rules of LANGUAGE.md that can be looked up in the files of the package."""

import ast
import builtins
import unittest
from pathlib import Path

import deedseen

FOLDER = Path(deedseen.__file__).parent
LIBRARY = {"math": {"gcd", "lcm", "isqrt", "comb", "perm", "factorial"},
           "heapq": {"heappush", "heappop", "heapify", "heapreplace", "heappushpop"}}
LET_BUILTINS = {
    "len", "range", "enumerate", "zip", "min", "max", "sum", "abs", "sorted", "reversed", "int", "str", "bool", "list",
    "tuple", "dict", "set", "isinstance", "ord", "repr", "any", "all", "divmod", "map", "iter", "next", "super", "type",
    "ValueError", "KeyError", "ZeroDivisionError",
}
LET_METHODS = {
    "append", "clear", "copy", "count", "endswith", "extend", "find", "get", "index", "insert", "isalnum", "isalpha",
    "isdigit", "isascii", "items", "join", "keys", "pop", "remove", "replace", "reverse", "setdefault", "split",
    "startswith", "strip", "update", "values", "add", "discard", "sort", "bit_length", "__init__",
}
NOT_LET = (ast.Import, ast.Global, ast.AsyncFunctionDef, ast.AsyncFor, ast.AsyncWith, ast.Await, ast.Div, ast.TryStar,
           ast.AnnAssign, ast.With)


def trees():
    return {path.stem: ast.parse(path.read_text(encoding="ascii")) for path in sorted(FOLDER.glob("*.py"))}


def bound_names(tree):
    for node in ast.walk(tree):
        if isinstance(node, (ast.FunctionDef, ast.ClassDef)):
            yield node.name
        elif isinstance(node, ast.arg):
            yield node.arg
        elif isinstance(node, ast.Name) and isinstance(node.ctx, ast.Store):
            yield node.id
        elif isinstance(node, ast.alias):
            yield node.asname or node.name


class LanguageTest(unittest.TestCase):

    def test_files(self):
        for path in FOLDER.rglob("*"):
            if "__pycache__" in path.parts:
                continue
            self.assertEqual((path.suffix, path.parent), (".py", FOLDER))
            data = path.read_bytes()
            self.assertTrue(all(sign == 10 or 32 <= sign <= 126 for sign in data), path)
            lines = data.split(b"\n")
            self.assertLessEqual(len(lines), 400, path)
            self.assertLessEqual(max(len(line) for line in lines), 120, path)

    def test_functions_are_short(self):
        for file, tree in trees().items():
            for node in ast.walk(tree):
                if isinstance(node, ast.FunctionDef):
                    self.assertLessEqual(node.end_lineno - node.lineno + 1, 40, (file, node.name))
                    self.assertEqual(node.decorator_list, [], (file, node.name))

    def test_module_level(self):
        for file, tree in trees().items():
            for node in tree.body:
                told = isinstance(node, ast.Expr) and isinstance(node.value, ast.Constant)
                kinds = (ast.ImportFrom, ast.FunctionDef, ast.ClassDef, ast.Assign)
                self.assertTrue(told or isinstance(node, kinds), (file, node.lineno))

    def test_imports(self):
        found = trees()
        defined = {file: {node.name for node in tree.body if isinstance(node, (ast.FunctionDef, ast.ClassDef))}
                   | {node.targets[0].id for node in tree.body if isinstance(node, ast.Assign)}
                   for file, tree in found.items()}
        needs = {}
        for file, tree in found.items():
            needs[file] = set()
            for node in ast.walk(tree):
                if isinstance(node, ast.ImportFrom):
                    package, _, name = node.module.partition(".")
                    let = defined[name] if package == "deedseen" else LIBRARY[node.module]
                    self.assertEqual(node.level, 0)
                    self.assertLessEqual({alias.name for alias in node.names}, let, (file, node.module))
                    self.assertFalse(any(alias.asname for alias in node.names), (file, node.module))
                    needs[file] |= {name} if package == "deedseen" else set()
        while needs:
            free = [file for file, others in needs.items() if not others & set(needs)]
            self.assertTrue(free, "files import from each other")
            for file in free:
                del needs[file]

    def test_statements_and_values(self):
        for file, tree in trees().items():
            for node in ast.walk(tree):
                self.assertNotIsInstance(node, NOT_LET, file)
                if isinstance(node, ast.Constant):
                    self.assertNotIsInstance(node.value, (float, complex), file)

    def test_own_errors_alone_are_caught(self):
        found = trees()
        own = {node.name for node in found["errors"].body if isinstance(node, ast.ClassDef)}
        for file, tree in found.items():
            for node in ast.walk(tree):
                if isinstance(node, ast.Try):
                    self.assertEqual(node.finalbody, [], file)
                    for handler in node.handlers:
                        self.assertIn(handler.type.id, own, file)

    def test_names(self):
        for file, tree in trees().items():
            names = list(bound_names(tree))
            for name in names:
                if name != "__init__":
                    self.assertFalse(hasattr(builtins, name) or name.startswith("__"), (file, name))
            for node in ast.walk(tree):
                if isinstance(node, ast.Name) and hasattr(builtins, node.id):
                    self.assertIn(node.id, LET_BUILTINS, file)

    def test_no_parameter_or_variable_has_the_name_of_an_import_or_class(self):
        for file, tree in trees().items():
            taken = {alias.name for node in ast.walk(tree) if isinstance(node, ast.ImportFrom) for alias in node.names}
            taken |= {node.name for node in ast.walk(tree) if isinstance(node, ast.ClassDef)}
            for node in ast.walk(tree):
                if isinstance(node, ast.arg):
                    self.assertNotIn(node.arg, taken, file)
                if isinstance(node, ast.Name) and isinstance(node.ctx, ast.Store):
                    self.assertNotIn(node.id, taken, file)

    def test_methods(self):
        found = trees()
        own = {node.name for tree in found.values() for kind in ast.walk(tree) if isinstance(kind, ast.ClassDef)
               for node in kind.body if isinstance(node, ast.FunctionDef)}
        for file, tree in found.items():
            for node in ast.walk(tree):
                if isinstance(node, ast.Call) and isinstance(node.func, ast.Attribute):
                    self.assertIn(node.func.attr, LET_METHODS | own, file)


if __name__ == "__main__":
    unittest.main()

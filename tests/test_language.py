"""What can be told of the package's files by looking at them: the rules of the language that it keeps to."""

import ast
import builtins
import pathlib
import unittest

PACKAGE = pathlib.Path(__file__).resolve().parent.parent / "metbefore"
LIBRARY = {
    "math": {"gcd", "lcm", "isqrt", "comb", "perm", "factorial"},
    "itertools": {"product", "combinations", "permutations", "chain", "accumulate", "pairwise", "islice"},
    "heapq": {"heappush", "heappop", "heapify"},
    "collections": {"defaultdict"},
}
BUILTINS = {
    "len", "range", "enumerate", "zip", "min", "max", "sum", "abs", "sorted", "reversed", "int", "str", "bool",
    "list", "tuple", "dict", "set", "isinstance", "ord", "repr", "any", "all", "divmod", "ValueError", "LookupError",
}
METHODS = {
    "append", "count", "endswith", "extend", "find", "get", "index", "isalpha", "isdigit", "items", "join", "keys",
    "partition", "pop", "split", "startswith", "values", "bit_length",
}
DOUBLE = {"__init__", "__len__", "__str__", "__eq__", "__ne__"}
BARRED = (
    ast.Global, ast.AsyncFunctionDef, ast.Await, ast.Div, ast.With, ast.Yield, ast.YieldFrom, ast.Set,
    ast.NamedExpr, ast.Lambda, ast.GeneratorExp, ast.Assert, ast.JoinedStr,
)
BARRED_NAMES = {
    "register", "mro", "elements", "open", "input", "law", "version_info", "with_traceback", "add_note", "type",
    "eval", "exec", "vars", "dir", "globals", "locals", "getattr", "setattr", "hasattr", "chr", "frozenset",
}


def files():
    return sorted(path for path in PACKAGE.rglob("*") if "__pycache__" not in path.parts)


def trees():
    return [(path, ast.parse(path.read_text())) for path in files()]


def names_given(tree):
    """All names that a file gives to something, but those of attributes."""
    for node in ast.walk(tree):
        if isinstance(node, ast.Name) and isinstance(node.ctx, ast.Store):
            yield node.id
        elif isinstance(node, ast.arg):
            yield node.arg
        elif isinstance(node, (ast.FunctionDef, ast.ClassDef)):
            yield node.name


class Language(unittest.TestCase):
    def test_only_plain_files(self):
        for path in files():
            self.assertEqual(path.parent, PACKAGE)
            self.assertRegex(path.name, r"^[a-z_]+\.py$")
        self.assertIn(PACKAGE / "__init__.py", files())
        self.assertLessEqual(len(files()), 100)

    def test_sizes_and_signs(self):
        for path, tree in trees():
            text = path.read_text()
            lines = text.split("\n")
            self.assertLessEqual(len(lines), 400, path)
            self.assertLessEqual(max(map(len, lines)), 120, path)
            self.assertTrue(all(sign == "\n" or " " <= sign <= "~" for sign in text), path)
            for node in ast.walk(tree):
                if isinstance(node, ast.FunctionDef):
                    self.assertLessEqual(node.end_lineno - node.lineno + 1, 40, (path, node.name))

    def test_module_level(self):
        for path, tree in trees():
            bound = []
            for node in tree.body:
                self.assertIsInstance(
                    node, (ast.Expr, ast.ImportFrom, ast.FunctionDef, ast.ClassDef, ast.Assign), (path, node.lineno)
                )
                if isinstance(node, ast.ImportFrom):
                    bound += [alias.name for alias in node.names]
                elif isinstance(node, ast.Assign):
                    bound += [target.id for target in node.targets]
                elif not isinstance(node, ast.Expr):
                    bound.append(node.name)
                    self.assertEqual(node.decorator_list, [], path)
            self.assertEqual(len(bound), len(set(bound)), path)

    def test_imports(self):
        for path, tree in trees():
            given = set(names_given(tree))
            for node in ast.walk(tree):
                self.assertNotIsInstance(node, ast.Import, path)
                if isinstance(node, ast.ImportFrom):
                    told = {alias.name for alias in node.names}
                    self.assertTrue(all(alias.asname is None for alias in node.names), path)
                    self.assertFalse(told & given, path)
                    if node.module in LIBRARY:
                        self.assertLessEqual(told, LIBRARY[node.module], path)
                    else:
                        package, name = node.module.split(".")
                        self.assertEqual((package, node.level), ("metbefore", 0), path)
                        self.assertLessEqual(told, self.defined(name), path)

    def defined(self, name):
        """What the very file defines that is imported from."""
        tree = ast.parse((PACKAGE / (name + ".py")).read_text())
        told = {node.name for node in tree.body if isinstance(node, (ast.FunctionDef, ast.ClassDef))}
        return told | {target.id for node in tree.body if isinstance(node, ast.Assign) for target in node.targets}

    def test_no_two_files_import_from_each_other(self):
        table = {}
        for path, tree in trees():
            froms = [node.module for node in ast.walk(tree) if isinstance(node, ast.ImportFrom)]
            table[path.stem] = {name.split(".")[1] for name in froms if name.startswith("metbefore.")}
        while table:
            free = [name for name in table if not table[name] & set(table)]
            self.assertTrue(free, table)
            for name in free:
                del table[name]

    def test_names(self):
        for path, tree in trees():
            for name in set(names_given(tree)) - DOUBLE:
                self.assertFalse(hasattr(builtins, name), (path, name))
                self.assertNotIn(name, BARRED_NAMES, path)
                self.assertFalse(name.startswith("__"), (path, name))

    def own_methods(self):
        """The methods of the package's classes."""
        told = set()
        for _, tree in trees():
            for node in ast.walk(tree):
                if isinstance(node, ast.ClassDef):
                    told |= {part.name for part in node.body if isinstance(part, ast.FunctionDef)}
        return told

    def test_builtins_and_methods(self):
        own = self.own_methods()
        self.assertFalse(own & METHODS)
        self.assertLessEqual({name for name in own if name.startswith("__")}, DOUBLE)
        for path, tree in trees():
            for node in ast.walk(tree):
                if isinstance(node, ast.Name) and hasattr(builtins, node.id):
                    self.assertIn(node.id, BUILTINS, path)
                if isinstance(node, ast.Call) and isinstance(node.func, ast.Attribute):
                    self.assertIn(node.func.attr, METHODS | own - DOUBLE, path)

    def test_statements_and_values(self):
        for path, tree in trees():
            for node in ast.walk(tree):
                self.assertNotIsInstance(node, BARRED, (path, getattr(node, "lineno", 0)))
                if isinstance(node, ast.Compare) and isinstance(node.ops[0], (ast.Is, ast.IsNot)):
                    self.assertIsInstance(node.comparators[0], ast.Constant, path)
                if isinstance(node, ast.Constant):
                    self.assertNotIsInstance(node.value, (float, complex, bytes), path)
                    self.assertNotIn("%", str(node.value), path)

    def test_raised_on_the_spot(self):
        for path, tree in trees():
            for node in ast.walk(tree):
                if isinstance(node, ast.Raise) and node.exc is not None:
                    self.assertIsInstance(node.exc, ast.Call, path)
                    self.assertEqual(node.exc.keywords, [], path)
                    self.assertNotIn(node.exc.func.id, ("MetError", "LackError"), path)

    def test_only_own_errors_are_caught(self):
        refusals = self.defined("errors")
        for path, tree in trees():
            bare = [node for node in ast.walk(tree) if isinstance(node, ast.Raise) and node.exc is None]
            for node in ast.walk(tree):
                if isinstance(node, ast.Try):
                    for handler in node.handlers:
                        self.assertIn(handler.type.id, refusals, path)
                        bare = [one for one in bare if one not in list(ast.walk(handler))]
                    for row in node.finalbody:
                        self.assertIsInstance(row, (ast.Assign, ast.AugAssign), path)
            self.assertEqual(bare, [], path)

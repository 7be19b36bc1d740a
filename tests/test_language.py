"""The files of the package keep to the main rules of the language that the program is written in."""

import ast
import builtins
import pathlib
import unittest

PACKAGE = pathlib.Path(__file__).resolve().parent.parent / "tablestack"
BUILTINS = {
    "len", "range", "enumerate", "zip", "min", "max", "sum", "abs", "sorted", "reversed", "int", "str", "bool", "list",
    "tuple", "dict", "set", "isinstance", "ord", "repr", "any", "all", "divmod", "map", "Exception", "ValueError",
    "TypeError", "KeyError", "IndexError", "LookupError", "ZeroDivisionError", "RuntimeError", "NotImplementedError",
}
METHODS = set(
    "append clear copy count endswith extend find get index insert isalnum isalpha isdigit islower isspace isupper "
    "items join keys ljust lower lstrip partition pop remove replace reverse rfind rjust rpartition rsplit rstrip "
    "setdefault split splitlines startswith strip update upper values zfill bit_length".split()
)
VALUE_NAMES = {name for kind in (str, int, list, dict, set, bytes) for name in dir(kind)}
STATEMENTS = (
    ast.Assign, ast.AugAssign, ast.If, ast.While, ast.For, ast.Return, ast.Break, ast.Continue, ast.Pass, ast.Raise,
    ast.Assert, ast.Delete, ast.Try, ast.Expr, ast.FunctionDef, ast.ClassDef, ast.ImportFrom,
)
BARRED = {
    "mro", "elements", "open", "input", "law", "version_info", "register", "attrgetter", "breakpoint", "builtins",
    "compile", "delattr", "dir", "eval", "exec", "exit", "gc", "globals", "help", "importlib", "locals",
    "methodcaller", "os", "super", "type", "vars", "sys", "typing", "enum", "dataclass", "format",
}
MODIFYING = {"append", "clear", "extend", "insert", "pop", "remove", "reverse", "setdefault", "update"}
LIBRARY = {"heapq", "math", "itertools", "collections"}
# Methods of a tree that have the names of a list's or dict's methods, as the interface wants.
LIKE_BUILTIN = {"clear", "remove"}


def files():
    return sorted(PACKAGE.glob("*.py"))


def trees():
    return [(path.stem, ast.parse(path.read_text())) for path in files()]


def own_names(kind):
    return {node.name for _, tree in trees() for node in ast.walk(tree) if isinstance(node, kind)}


def bound_names(node):
    if isinstance(node, ast.Name) and isinstance(node.ctx, (ast.Store, ast.Del)):
        return [node.id]
    if isinstance(node, ast.arg):
        return [node.arg]
    if isinstance(node, ast.ExceptHandler) and node.name:
        return [node.name]
    if isinstance(node, (ast.FunctionDef, ast.ClassDef)):
        return [node.name]
    if isinstance(node, ast.alias):
        return [node.asname or node.name]
    return []


class LanguageTest(unittest.TestCase):
    def test_folder_and_characters(self):
        for path in PACKAGE.iterdir():
            if path.name != "__pycache__":
                self.assertRegex(path.name, r"^[a-z_][a-z0-9_]*\.py$")
        for path in files():
            text = path.read_text()
            self.assertRegex(text, r"\A[ -~\n]*\Z", path.name)
            self.assertLess(len(text.splitlines()), 400, path.name)
            self.assertLessEqual(max(map(len, text.splitlines())), 120, path.name)

    def test_functions_are_short(self):
        for name, tree in trees():
            for node in ast.walk(tree):
                if isinstance(node, ast.FunctionDef):
                    self.assertLessEqual(node.end_lineno - node.lineno + 1, 40, (name, node.name))
                    self.assertEqual(node.decorator_list, [], (name, node.name))
                    self.assertIsNotNone(ast.get_docstring(node) or node.name == "__init__" or None, node.name)

    def test_module_level(self):
        for name, tree in trees():
            for node in tree.body:
                plain = (ast.ImportFrom, ast.FunctionDef, ast.ClassDef, ast.Assign)
                text = isinstance(node, ast.Expr) and isinstance(node.value, ast.Constant)
                self.assertTrue(text or isinstance(node, plain), (name, node.lineno))
                if isinstance(node, ast.Assign):
                    self.assertEqual(len(node.targets), 1)
                    self.assertIsInstance(node.targets[0], ast.Name)
                    calls = [one for one in ast.walk(node.value) if isinstance(one, (ast.Call, ast.ListComp))]
                    self.assertEqual(calls, [], (name, node.lineno))

    def test_imports(self):
        defined = {}
        wanted = {}
        for name, tree in trees():
            targets = [one.targets[0].id for one in tree.body if isinstance(one, ast.Assign)]
            defined[name] = targets + [one.name for one in tree.body if hasattr(one, "name")]
            wanted[name] = []
        for name, tree in trees():
            for node in ast.walk(tree):
                self.assertNotIsInstance(node, ast.Import, name)
                if isinstance(node, ast.ImportFrom) and node.module not in LIBRARY:
                    package, _, module = node.module.partition(".")
                    self.assertEqual(package, "tablestack")
                    wanted[name].append(module)
                    for alias in node.names:
                        self.assertIn(alias.name, defined[module], (name, alias.name))
                        self.assertIsNone(alias.asname)
        self.check_no_rounds(wanted)

    def check_no_rounds(self, wanted):
        left = dict(wanted)
        while left:
            free = [name for name in left if not any(one in left for one in left[name])]
            self.assertNotEqual(free, [], left)
            left = {name: left[name] for name in left if name not in free}

    def test_used_imports_and_one_binding(self):
        for name, tree in trees():
            imported = [alias.name for node in tree.body if isinstance(node, ast.ImportFrom) for alias in node.names]
            used = {node.id for node in ast.walk(tree) if isinstance(node, ast.Name)}
            for one in imported:
                self.assertIn(one, used, name)
            top = [one for node in tree.body for part in self.top_parts(node) for one in bound_names(part)]
            self.assertEqual(len(top), len(set(top)), name)
            classes = [node.name for node in tree.body if isinstance(node, ast.ClassDef)]
            for node in ast.walk(tree):
                if not isinstance(node, (ast.alias, ast.ClassDef)):
                    for one in bound_names(node):
                        self.assertNotIn(one, imported + classes, (name, getattr(node, "lineno", 0)))

    def top_parts(self, node):
        if isinstance(node, ast.ImportFrom):
            return node.names
        if isinstance(node, ast.Assign):
            return node.targets
        return [node]

    def test_statements_and_expressions(self):
        barred = (
            ast.Lambda, ast.Await, ast.Yield, ast.YieldFrom, ast.Global, ast.Nonlocal, ast.Div, ast.MatMult,
            ast.AnnAssign, ast.With, ast.SetComp,
        )
        for name, tree in trees():
            for node in ast.walk(tree):
                place = (name, getattr(node, "lineno", 0))
                if isinstance(node, ast.SetComp):
                    continue
                self.assertNotIsInstance(node, barred, place)
                if isinstance(node, ast.stmt):
                    self.assertIsInstance(node, STATEMENTS, place)
                if isinstance(node, ast.Constant):
                    self.assertNotIsInstance(node.value, (float, complex), place)
                if isinstance(node, ast.Compare) and isinstance(node.ops[0], (ast.Is, ast.IsNot)):
                    self.assertIsInstance(node.comparators[0], ast.Constant, place)
                if isinstance(node, ast.Raise) and node.exc is not None:
                    self.assertIsInstance(node.exc, ast.Call, place)
                if isinstance(node, ast.ExceptHandler):
                    self.assertIsNotNone(node.type, place)

    def test_no_star_stands_in_brackets_of_an_index(self):
        for name, tree in trees():
            for node in ast.walk(tree):
                if isinstance(node, ast.Subscript):
                    stars = [one for one in ast.walk(node.slice) if isinstance(one, ast.Starred)]
                    self.assertEqual(stars, [], (name, node.lineno))

    def test_names(self):
        functions = own_names(ast.FunctionDef)
        for name, tree in trees():
            for node in ast.walk(tree):
                place = (name, getattr(node, "lineno", 0))
                for one in bound_names(node):
                    if one not in ("__init__", "_"):
                        self.assertFalse(hasattr(builtins, one) or one in BARRED, (place, one))
                        self.assertFalse(one.startswith("_"), (place, one))
                if isinstance(node, ast.Name) and hasattr(builtins, node.id):
                    self.assertIn(node.id, BUILTINS, place)
                if isinstance(node, ast.Name) and isinstance(node.ctx, ast.Load):
                    self.assertNotEqual(node.id, "_", place)
                if isinstance(node, ast.Attribute):
                    self.check_attribute(node, place, functions)

    def check_attribute(self, node, place, functions):
        self.assertNotIn(node.attr, BARRED, place)
        if isinstance(node.ctx, ast.Store):
            self.assertNotIn(node.attr, VALUE_NAMES - {"count", "index", "title"}, place)
            self.assertIsInstance(node.value, ast.Name, place)
        elif node.attr in VALUE_NAMES and node.attr != "__init__":
            self.assertIn(node.attr, METHODS, place)
        self.assertFalse(node.attr in functions - LIKE_BUILTIN and node.attr in METHODS, place)

    def test_what_is_iterated_is_not_modified(self):
        for name, tree in trees():
            for node in ast.walk(tree):
                if isinstance(node, ast.For):
                    for part in ast.walk(ast.Module(node.body, [])):
                        self.assertNotIn(self.modified(part), self.iterated(node.iter), (name, part))

    def iterated(self, node):
        """Return the texts of what a loop goes over."""
        if isinstance(node, ast.Call) and isinstance(node.func, ast.Name) and node.func.id in ("enumerate", "zip",
            "reversed"):
            return [ast.unparse(one) for one in node.args]
        if isinstance(node, ast.Call) and isinstance(node.func, ast.Attribute):
            return [ast.unparse(node.func.value)]
        return [ast.unparse(node)]

    def modified(self, node):
        """Return the text of what a statement or a call modifies."""
        if isinstance(node, ast.Subscript) and not isinstance(node.ctx, ast.Load):
            return ast.unparse(node.value)
        if isinstance(node, ast.Call) and isinstance(node.func, ast.Attribute) and node.func.attr in MODIFYING:
            return ast.unparse(node.func.value)
        return None

    def test_strings(self):
        for name, tree in trees():
            for node in ast.walk(tree):
                if isinstance(node, ast.Constant) and isinstance(node.value, str):
                    self.assertNotIn("%", node.value, (name, node.lineno))
                    self.assertNotIn("__", node.value, (name, node.lineno))
                    self.assertFalse(node.value.endswith("._"), (name, node.lineno))

    def test_attributes_are_assigned(self):
        assigned = set()
        read = set()
        for _, tree in trees():
            for node in ast.walk(tree):
                if isinstance(node, ast.Attribute) and isinstance(node.ctx, ast.Store):
                    assigned.add(node.attr)
                elif isinstance(node, ast.Attribute):
                    read.add(node.attr)
        self.assertEqual(read - assigned - own_names(ast.FunctionDef) - METHODS, set())
        classes = [node for _, tree in trees() for node in ast.walk(tree) if isinstance(node, ast.ClassDef)]
        methods = {part.name for node in classes for part in node.body if isinstance(part, ast.FunctionDef)}
        self.assertEqual(assigned & methods, set())


if __name__ == "__main__":
    unittest.main()

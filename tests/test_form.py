"""Those rules of the Python subset that a short program can see, for the files of the package."""

import ast
import builtins
import pathlib
import unittest

PACKAGE = pathlib.Path(__file__).resolve().parent.parent / "stagebelt"
FILES = sorted(PACKAGE.glob("*.py"))
LIBRARY = ("heapq", "math", "itertools", "collections")

# Methods of builtin values that may be called; only those that the package uses are listed.
METHODS = ("append", "extend", "get", "index", "join", "split", "values")

NOT_USED = ("register", "mro", "elements", "open", "input", "law", "type", "typing", "enum", "Enum", "Flag", "Generic",
            "Protocol", "ABC", "namedtuple", "dataclass", "overload", "contextmanager", "eval", "exec", "exit", "vars")


def trees():
    return [(path, ast.parse(path.read_text(encoding="utf-8"))) for path in FILES]


def bound_names(tree):
    """All names that a file binds: parameters, variables, functions, classes, imports."""
    for node in ast.walk(tree):
        if isinstance(node, ast.arg):
            yield node.arg
        elif isinstance(node, ast.Name) and isinstance(node.ctx, ast.Store):
            yield node.id
        elif isinstance(node, (ast.FunctionDef, ast.ClassDef)):
            yield node.name
        elif isinstance(node, ast.alias):
            yield node.asname or node.name


class FormTest(unittest.TestCase):
    def test_only_python_files(self):
        others = [path.name for path in PACKAGE.iterdir() if path not in FILES and path.name != "__pycache__"]
        self.assertEqual(others, [])
        self.assertIn(PACKAGE / "__init__.py", FILES)

    def test_sizes_and_characters(self):
        for path in FILES:
            lines = path.read_text(encoding="utf-8").split("\n")
            self.assertLessEqual(len(lines), 399, path.name)
            for number, line in enumerate(lines, 1):
                with self.subTest(path.name, line=number):
                    self.assertLessEqual(len(line), 120)
                    self.assertTrue(all(" " <= character <= "~" for character in line))

    def test_functions_of_at_most_40_lines(self):
        for path, tree in trees():
            for node in ast.walk(tree):
                if isinstance(node, ast.FunctionDef):
                    self.assertLessEqual(node.end_lineno - node.lineno + 1, 40, f"{path.name} {node.name}")

    def test_imports(self):
        for path, tree in trees():
            for node in ast.walk(tree):
                self.assertNotIsInstance(node, ast.Import, path.name)
                if isinstance(node, ast.ImportFrom):
                    self.assertEqual(node.level, 0, path.name)
                    self.assertTrue(node.module.startswith("stagebelt.") or node.module in LIBRARY, path.name)

    def test_no_name_of_a_builtin(self):
        for path, tree in trees():
            taken = [name for name in bound_names(tree) if hasattr(builtins, name) and not name.startswith("__")]
            # The desk has a property of this name, which methods may have.
            self.assertEqual(taken, ["next"] if path.name == "desks.py" else [], path.name)

    def test_properties_are_no_attributes(self):
        properties = {node.name for _, tree in trees() for node in ast.walk(tree) if isinstance(node, ast.FunctionDef)
                      and [getattr(item, "id", None) for item in node.decorator_list] == ["property"]}
        self.assertEqual(properties, {"state", "next", "done"})
        stored = {node.attr for _, tree in trees() for node in ast.walk(tree)
                  if isinstance(node, ast.Attribute) and isinstance(node.ctx, ast.Store)}
        self.assertEqual(properties & stored, set())

    def test_no_name_of_a_class_or_an_import(self):
        for path, tree in trees():
            given = [node.name for node in tree.body if isinstance(node, (ast.FunctionDef, ast.ClassDef))]
            for node in tree.body:
                if isinstance(node, ast.ImportFrom):
                    given.extend(alias.name for alias in node.names)
            taken = [name for node in ast.walk(tree) if isinstance(node, (ast.FunctionDef, ast.Lambda, ast.ListComp))
                     for inner in ast.iter_child_nodes(node) for name in bound_names(inner)]
            self.assertEqual([name for name in taken if name in given], [], path.name)

    def test_no_name_that_is_barred(self):
        for path, tree in trees():
            for name in bound_names(tree):
                self.assertNotIn(name, NOT_USED, path.name)
            words = path.read_text(encoding="utf-8").replace("_", " ").split()
            self.assertFalse({"dataclass", "overload", "contextmanager"} & set(words), path.name)

    def test_methods_that_are_called(self):
        own = {node.name for _, tree in trees() for node in ast.walk(tree) if isinstance(node, ast.FunctionDef)}
        for path, tree in trees():
            for node in ast.walk(tree):
                if isinstance(node, ast.Call) and isinstance(node.func, ast.Attribute):
                    self.assertIn(node.func.attr, own | set(METHODS), path.name)

    def test_is_only_with_constants(self):
        for path, tree in trees():
            for node in ast.walk(tree):
                if isinstance(node, ast.Compare) and isinstance(node.ops[0], (ast.Is, ast.IsNot)):
                    self.assertIn(getattr(node.comparators[0], "value", 0), (None, True, False), path.name)
                    self.assertIsInstance(node.comparators[0], ast.Constant, path.name)

    def test_no_circular_imports(self):
        needed = {path.stem: {node.module.split(".")[1] for node in tree.body if isinstance(node, ast.ImportFrom)
                              and node.module.startswith("stagebelt.")} for path, tree in trees()}
        while needed:
            free = [name for name, others in needed.items() if not others & set(needed)]
            self.assertTrue(free, needed)
            needed = {name: others for name, others in needed.items() if name not in free}

    def test_no_float_and_no_percent_sign(self):
        for path, tree in trees():
            for node in ast.walk(tree):
                self.assertNotIsInstance(node, ast.Div, path.name)
                if isinstance(node, ast.Constant):
                    self.assertNotIsInstance(node.value, float, path.name)
                    self.assertFalse(isinstance(node.value, str) and "%" in node.value, path.name)

"""What can be seen of the language rules and of the package's form by looking at its files."""

import ast
import importlib
import inspect
import os
import unittest
import warnings

ROOT = os.path.join(os.path.dirname(os.path.dirname(os.path.abspath(__file__))), "narrowingbits")
# The order of the interface: each module uses only those ahead of it.
MODULES = ["errors", "bits", "hexes", "tables", "ranges", "telling", "pairs"]
FUNCTIONS = {
    "bits": ["fixed(n, w)", "count_bits(n)", "signed_bits(n)", "read_count(bits, at)",
             "read_signed(bits, at)"],
    "hexes": ["hex_of(bits)", "bits_of(text)"],
    "ranges": ["next_node(node, counts, j)", "end_of(node)"],
    "telling": ["told_letters(bits, model)"],
    "pairs": ["pair(a, b)", "back(s, d)"],
}
METHODS = {
    "tables": {"Table": ["__init__(self, m)", "learn(self, j)"]},
    "ranges": {"Ranger": ["__init__(self)", "take(self, counts, j)", "end(self)"]},
}
PROPERTIES = {"tables": {"Table": ["counts", "total"]}, "ranges": {"Ranger": ["doublings"]}}
NODES_THAT_ARE_NOT_ALLOWED = (ast.Global, ast.AsyncFunctionDef, ast.AsyncFor, ast.AsyncWith,
                              ast.Await, ast.Import, ast.Div)


def read(name):
    with open(os.path.join(ROOT, name + ".py"), encoding="utf-8") as file:
        return file.read()


class FilesTest(unittest.TestCase):

    def setUp(self):
        self.texts = {name: read(name) for name in MODULES}
        self.trees = {name: ast.parse(text) for name, text in self.texts.items()}

    def test_just_these_files_are_there(self):
        there = sorted(name for name in os.listdir(ROOT) if name != "__pycache__")
        self.assertEqual(there, sorted(name + ".py" for name in MODULES + ["__init__"]))

    def test_init_holds_nothing_but_a_docstring(self):
        body = ast.parse(read("__init__")).body
        self.assertEqual(len(body), 1)
        self.assertIsInstance(body[0].value.value, str)

    def test_sizes_and_characters(self):
        for name, text in self.texts.items():
            lines = text.split("\n")
            self.assertLessEqual(len(lines), 399, name)
            for line in lines:
                self.assertLessEqual(len(line), 120, (name, line))
                self.assertTrue(all(" " <= sign <= "~" for sign in line), (name, line))

    def test_functions_have_at_most_40_lines(self):
        for name, tree in self.trees.items():
            for node in ast.walk(tree):
                if isinstance(node, ast.FunctionDef):
                    self.assertLessEqual(node.end_lineno - node.lineno + 1, 40, (name, node.name))

    def test_no_warnings(self):
        for name, text in self.texts.items():
            with warnings.catch_warnings():
                warnings.simplefilter("error")
                compile(text, name, "exec")

    def test_no_forbidden_statements(self):
        for name, tree in self.trees.items():
            for node in ast.walk(tree):
                self.assertNotIsInstance(node, NODES_THAT_ARE_NOT_ALLOWED, name)
                if isinstance(node, ast.Constant):
                    self.assertNotIsInstance(node.value, (float, complex), name)
                    if isinstance(node.value, str):
                        self.assertNotIn("%", node.value, name)

    def test_decorators(self):
        for name, tree in self.trees.items():
            for node in ast.walk(tree):
                for decorator in getattr(node, "decorator_list", []):
                    self.assertEqual(ast.unparse(decorator), "property", name)

    def test_imports_are_of_modules_ahead(self):
        for place, name in enumerate(MODULES):
            ahead = ["narrowingbits." + other for other in MODULES[:place]]
            for node in ast.walk(self.trees[name]):
                if isinstance(node, ast.ImportFrom):
                    self.assertIn(node.module, ahead, name)
                    self.assertEqual(node.level, 0)

    def test_imports_are_used(self):
        for name, tree in self.trees.items():
            imported = [alias.name for node in ast.walk(tree) if isinstance(node, ast.ImportFrom)
                        for alias in node.names]
            used = [node.id for node in ast.walk(tree) if isinstance(node, ast.Name)]
            for word in imported:
                self.assertIn(word, used, name)


class InterfaceTest(unittest.TestCase):

    def test_functions_are_defined_in_their_files(self):
        for name, forms in FUNCTIONS.items():
            module = importlib.import_module("narrowingbits." + name)
            for form in forms:
                function = getattr(module, form.split("(")[0])
                self.assertEqual(function.__module__, module.__name__)
                self.assertEqual(function.__name__ + str(inspect.signature(function)), form)

    def test_methods_are_defined_in_their_classes(self):
        for name, classes in METHODS.items():
            module = importlib.import_module("narrowingbits." + name)
            for word, forms in classes.items():
                made = getattr(module, word)
                self.assertEqual(made.__module__, module.__name__)
                for form in forms:
                    method = vars(made)[form.split("(")[0]]
                    self.assertEqual(method.__name__ + str(inspect.signature(method)), form)

    def test_properties_are_defined_in_their_classes(self):
        for name, classes in PROPERTIES.items():
            module = importlib.import_module("narrowingbits." + name)
            for word, properties in classes.items():
                for told in properties:
                    self.assertIsInstance(vars(getattr(module, word))[told], property)


if __name__ == "__main__":
    unittest.main()

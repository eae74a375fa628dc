"""What can be seen of the language rules and of the package's form by looking at its files."""

import ast
import builtins
import importlib
import inspect
import os
import unittest
import warnings

PACKAGE = os.path.join(os.path.dirname(os.path.dirname(os.path.abspath(__file__))), "narrowingbits")
# In the order of the interface: each module uses only those ahead of it.
MODULES = ["errors", "bits", "hexes", "tables", "ranges", "telling", "pairs", "grids", "steps",
           "colours", "models", "lines", "settings", "orders", "pictures", "coefs", "streams", "heads",
           "boxes", "bounds", "gaps", "totals", "corners", "guesses", "reading", "live", "cutting", "thrifts",
           "moving", "joining", "turning", "making", "moved", "films", "filmboxes", "filmbits", "filmmoves",
           "filmdeeds", "checks", "cells", "holes", "papers", "judges", "texts", "streamtexts", "studio"]
# For each module its functions with their parameters.
FUNCTIONS = {
    "bits": {"fixed": "n w", "count_bits": "n", "signed_bits": "n", "read_count": "bits at",
             "read_signed": "bits at"},
    "hexes": {"hex_of": "bits", "bits_of": "text"},
    "ranges": {"next_node": "node counts j", "end_of": "node"},
    "telling": {"told_letters": "bits model"},
    "pairs": {"pair": "a b", "back": "s d"},
    "steps": {"halved": "grid letter", "joined": "low high rect letter", "bands": "grid word",
              "unbands": "parts rect word"},
    "colours": {"coloured": "channels", "uncoloured": "channels"},
    "lines": {"code_line": "rect planes layers rows", "read_line": "rect planes layers pieces",
              "states": "rect planes layers pieces"},
    "orders": {"tiles_of": "setting", "tile_rect": "setting j i", "lines_of": "setting",
               "pieces_of": "setting"},
    "coefs": {"coefs_of": "picture setting", "picture_of": "rows setting"},
    "streams": {"code": "picture setting layers", "stream_states": "stream", "is_right": "stream",
                "is_whole": "stream", "is_layered": "stream"},
    "heads": {"head_bits": "setting", "stream_bits": "stream", "payload": "stream", "read_stream": "bits"},
    "bounds": {"sample": "box c x y", "samples": "box", "widest": "box"},
    "gaps": {"gap": "box c p q", "surely": "box c p q"},
    "totals": {"total": "box c"},
    "corners": {"corner": "box c x y greatest", "gap_corner": "box c p q greatest",
                "total_corner": "box c greatest"},
    "guesses": {"guess": "box", "off": "box"},
    "reading": {"box_of": "stream", "told_box": "bits", "needed": "stream rect drop layers",
                "least_bits": "stream w", "spent": "stream"},
    "cutting": {"cut": "stream n", "keep_layers": "stream m", "thin": "stream counts"},
    "thrifts": {"least_layers": "stream w", "thrift": "stream w"},
    "moving": {"shrink": "stream n", "take": "stream j0 j1 i0 i1", "shift": "stream a b",
               "reorder": "stream order"},
    "joining": {"join_streams": "one other axis", "channel": "stream c", "bundle": "streams mode"},
    "turning": {"mirror": "stream", "swap": "stream", "turned": "stream word", "lighten": "stream c"},
    "making": {"patch": "stream j i picture", "retile": "stream tx ty", "relayer": "stream planes layers"},
    "moved": {"shrunk": "picture setting n", "mirrored": "picture", "swapped": "picture",
              "taken": "picture setting j0 j1 i0 i1"},
    "films": {"film": "pictures setting leans", "coefs_of_frame": "film n"},
    "filmboxes": {"frame_box": "film n", "chain": "film n"},
    "filmbits": {"film_bits": "film", "read_film": "bits", "told_film": "bits", "film_cut": "film n"},
    "filmmoves": {"film_shrink": "film n", "film_take": "film j0 j1 i0 i1", "film_shift": "film a b",
                  "film_turned": "film word", "film_reorder": "film order", "film_keep_layers": "film m"},
    "filmdeeds": {"film_lighten": "film c", "relean": "film n m", "leave_out": "film k",
                  "add_frame": "film picture lean", "glue": "one other"},
    "checks": {"check": "bits"},
    "cells": {"protect": "bits group", "good": "protected group", "open_cells": "protected group"},
    "holes": {"read_holes": "bits"},
    "papers": {"make": "stream word n things"},
    "judges": {"judge": "stream paper"},
    "texts": {"text_of_setting": "setting", "text_of_picture": "picture", "setting_of": "text",
              "picture_read": "text"},
    "streamtexts": {"text_of_stream": "stream", "stream_of": "text"},
}
# For each class its module, its methods with their parameters, and its properties.
CLASSES = {
    "Table": ("tables", {"__init__": "m", "learn": "j"}, ["counts", "total"]),
    "Ranger": ("ranges", {"__init__": "", "take": "counts j", "end": ""}, ["doublings"]),
    "Grid": ("grids", {"__init__": "rect rows", "at": "x y"}, ["rect", "rows"]),
    "LineModel": ("models", {"__init__": "rect planes", "wanted": "", "wanted_counts": "",
                             "take": "letter", "stretches": ""}, ["pass_number"]),
    "Setting": ("settings", {"__init__": "rect mode tx ty word planes layers order"}, []),
    "Picture": ("pictures", {"__init__": "rect channels"}, []),
    "Stream": ("streams", {"__init__": "setting pieces", "__iter__": ""}, []),
    "Box": ("boxes", {"__init__": "setting rows", "stretches": "", "members": "", "has": "picture",
                      "__contains__": "picture", "inside": "other", "meet": "other", "nearest": ""}, []),
    "Live": ("live", {"__init__": "", "feed": "bits", "box": "", "letters": ""}, []),
    "Film": ("films", {"__init__": "setting frames"}, []),
    "Studio": ("studio", {"__init__": "", "do": "row", "undo": "", "redo": "", "stream": "name", "names": "",
                          "trial": "", "tried": "rows"}, []),
}
LIBRARY = ["heapq", "math", "itertools", "collections", "__future__"]
NOT_ALLOWED = (ast.Global, ast.AsyncFunctionDef, ast.AsyncFor, ast.AsyncWith, ast.Await, ast.Import,
               ast.Div, ast.SetComp)
CHANGING = ["append", "clear", "extend", "insert", "pop", "remove", "reverse", "setdefault", "sort", "update"]
DECORATORS = ["property", "staticmethod", "classmethod"]


def module_of(name):
    return importlib.import_module("narrowingbits." + name)


def names_bound_in(function):
    """The parameters and local variables of a function."""
    names = [argument.arg for argument in function.args.args + function.args.kwonlyargs]
    return names + [node.id for node in ast.walk(function)
                    if isinstance(node, ast.Name) and isinstance(node.ctx, ast.Store) and node.id != "_"]


def names_called_in(function):
    return [node.func.id if isinstance(node.func, ast.Name) else node.func.attr for node in ast.walk(function)
            if isinstance(node, ast.Call) and isinstance(node.func, (ast.Name, ast.Attribute))]


def created_in(function):
    """The local variables that a function assigns nothing but a list that it writes there."""
    assigned = {}
    for node in ast.walk(function):
        if isinstance(node, ast.Assign) and isinstance(node.targets[0], ast.Name):
            assigned.setdefault(node.targets[0].id, []).append(node.value)
    return [word for word, values in assigned.items()
            if all(isinstance(value, (ast.List, ast.ListComp)) for value in values)]


def parameters(function):
    return list(inspect.signature(function).parameters)


class FilesTest(unittest.TestCase):

    def setUp(self):
        self.texts = {}
        for name in sorted(os.listdir(PACKAGE)):
            if name != "__pycache__":
                with open(os.path.join(PACKAGE, name), encoding="utf-8") as file:
                    self.texts[name] = file.read()
        self.trees = {name: ast.parse(text) for name, text in self.texts.items()}
        self.nodes = [(name, node) for name, tree in self.trees.items() for node in ast.walk(tree)]

    def test_the_modules_are_there_and_nothing_but_modules(self):
        for name in MODULES + ["__init__"]:
            self.assertIn(name + ".py", self.texts)
        for name in self.texts:
            self.assertTrue(name.endswith(".py"), name)

    def test_init_holds_nothing_but_a_docstring(self):
        body = self.trees["__init__.py"].body
        self.assertEqual(len(body), 1)
        self.assertIsInstance(body[0].value.value, str)

    def test_sizes_and_characters(self):
        for name, text in self.texts.items():
            lines = text.split("\n")
            self.assertLessEqual(len(lines), 399, name)
            for line in lines:
                self.assertLessEqual(len(line), 120, (name, line))
                self.assertTrue(all(" " <= sign <= "~" for sign in line), (name, line))

    def test_functions_have_at_most_40_lines(self):
        for name, node in self.nodes:
            if isinstance(node, ast.FunctionDef):
                self.assertLessEqual(node.end_lineno - node.lineno + 1, 40, (name, node.name))

    def test_no_warnings(self):
        for name, text in self.texts.items():
            with warnings.catch_warnings():
                warnings.simplefilter("error")
                compile(text, name, "exec")

    def test_statements_and_values(self):
        for name, node in self.nodes:
            self.assertNotIsInstance(node, NOT_ALLOWED, name)
            if isinstance(node, ast.Constant):
                self.assertNotIsInstance(node.value, (float, complex), name)
                if isinstance(node.value, str):
                    self.assertNotIn("%", node.value, name)

    def test_exponents_are_literals(self):
        for name, node in self.nodes:
            if isinstance(node, ast.BinOp) and isinstance(node.op, ast.Pow):
                self.assertIsInstance(node.right, ast.Constant, (name, node.lineno))

    def test_lists_and_dicts_at_module_level_are_only_read(self):
        for name, tree in self.trees.items():
            tables = [node.targets[0].id for node in tree.body if isinstance(node, ast.Assign)
                      and isinstance(node.value, (ast.List, ast.Dict))]
            for node in ast.walk(tree):
                if isinstance(node, ast.Call):
                    passed = node.args + [keyword.value for keyword in node.keywords]
                    for word in [one.id for one in passed if isinstance(one, ast.Name) and one.id in tables]:
                        self.assertIn(ast.unparse(node.func), ["len", "list", "dict", "sorted"], (name, word))
                if isinstance(node, (ast.Return, ast.Assign)) and isinstance(node.value, ast.Name):
                    self.assertNotIn(node.value.id, tables, name)
                if isinstance(node, ast.Subscript) and isinstance(node.value, ast.Name) and node.value.id in tables:
                    self.assertIsInstance(node.ctx, ast.Load, name)

    def test_decorators(self):
        for name, node in self.nodes:
            for decorator in getattr(node, "decorator_list", []):
                self.assertIn(ast.unparse(decorator).split(".")[-1], DECORATORS + ["setter"], name)

    def test_imports_are_of_modules_ahead(self):
        for name, node in self.nodes:
            if isinstance(node, ast.ImportFrom) and node.module not in LIBRARY:
                package, module = node.module.split(".")
                self.assertEqual((package, node.level), ("narrowingbits", 0), name)
                if module in MODULES and name[:-3] in MODULES:
                    self.assertLess(MODULES.index(module), MODULES.index(name[:-3]))

    def test_imports_are_used(self):
        for name, tree in self.trees.items():
            imported = [alias.name for node in ast.walk(tree) if isinstance(node, ast.ImportFrom)
                        for alias in node.names]
            used = [node.id for node in ast.walk(tree) if isinstance(node, ast.Name)]
            for word in imported:
                self.assertIn(word, used, name)


    def test_names_of_parameters_and_local_variables(self):
        for name, tree in self.trees.items():
            taken = dir(builtins) + [node.name for node in tree.body if isinstance(node, ast.ClassDef)]
            taken += [alias.name for node in tree.body if isinstance(node, ast.ImportFrom) for alias in node.names]
            for node in ast.walk(tree):
                if isinstance(node, ast.FunctionDef):
                    for word in names_bound_in(node):
                        self.assertNotIn(word, taken, (name, node.name))

    def test_what_operators_and_properties_run(self):
        """They call nothing that they are passed, and change nothing but what they create."""
        functions = {}
        for _, node in self.nodes:
            if isinstance(node, ast.FunctionDef):
                functions.setdefault(node.name, []).append(node)
            if isinstance(node, ast.ClassDef):
                functions.setdefault(node.name, []).extend(
                    method for method in node.body if isinstance(method, ast.FunctionDef) and method.name == "__init__")
        left = functions["__contains__"] + [node for _, node in self.nodes if isinstance(node, ast.FunctionDef)
                                            and [ast.unparse(word) for word in node.decorator_list] == ["property"]]
        seen = []
        while left:
            function = left.pop()
            if function not in seen:
                seen.append(function)
                self.assert_changes_nothing(function)
                for word in names_called_in(function):
                    left.extend(functions.get(word, []))
        self.assertGreater(len(seen), 20)

    def assert_changes_nothing(self, function):
        bound = names_bound_in(function)
        for node in ast.walk(function):
            if isinstance(node, ast.Call) and isinstance(node.func, ast.Name):
                self.assertNotIn(node.func.id, bound, function.name)
            if isinstance(node, (ast.Attribute, ast.Subscript)) and not isinstance(node.ctx, ast.Load):
                self.assertEqual(function.name, "__init__", ast.unparse(node))
            if isinstance(node, ast.Call) and isinstance(node.func, ast.Attribute) and node.func.attr in CHANGING:
                self.assertIn(ast.unparse(node.func.value).split("[")[0], created_in(function), function.name)


class InterfaceTest(unittest.TestCase):

    def test_functions_are_defined_in_their_files(self):
        for name, functions in FUNCTIONS.items():
            for word, words in functions.items():
                function = getattr(module_of(name), word)
                self.assertEqual(function.__module__, "narrowingbits." + name)
                self.assertEqual(parameters(function), words.split(), word)

    def test_methods_are_defined_in_their_classes(self):
        for word, (name, methods, _) in CLASSES.items():
            made = getattr(module_of(name), word)
            self.assertEqual(made.__module__, "narrowingbits." + name)
            for method, words in methods.items():
                self.assertEqual(parameters(vars(made)[method]), ["self"] + words.split(), (word, method))

    def test_properties_are_defined_in_their_classes(self):
        for word, (name, _, properties) in CLASSES.items():
            for told in properties:
                self.assertIsInstance(vars(getattr(module_of(name), word))[told], property)


if __name__ == "__main__":
    unittest.main()

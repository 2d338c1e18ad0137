"""What holds of all files: where names are defined, and what is imported."""

import ast
import importlib
import inspect
import pathlib
import unittest

FOLDER = pathlib.Path(__file__).resolve().parent.parent / "simplebetween"

INTERFACE = {
    "fractions": {
        "is_fraction": ["thing"],
        "is_bound": ["thing"],
        "is_less": ["one", "other"],
        "lowest": ["top", "bottom"],
    },
    "roads": {
        "road_of": ["fraction"],
        "fraction_at": ["road"],
        "borders": ["fraction"],
    },
    "between": {
        "simplest": ["one", "other"],
    },
    "nearby": {
        "low_high": ["bound", "most"],
        "nearest": ["bound", "most"],
    },
    "rows": {
        "row_of": ["number"],
        "size_of": ["number"],
        "place_of": ["bound", "number"],
        "next_one": ["bound", "number"],
        "one_ahead": ["bound", "number"],
        "at_place": ["place", "number"],
    },
    "texts": {
        "bound_text": ["bound"],
        "read_bound": ["text"],
        "road_text": ["road"],
        "read_road": ["text"],
    },
}

# All that the program needs from outside: no clock, no chance, no files.
FROM_OUTSIDE = {"math": ["gcd"]}


def imports_of(path):
    """Pairs of a module and the names that the file takes from it."""
    found = []
    for node in ast.walk(ast.parse(path.read_text())):
        if isinstance(node, ast.ImportFrom):
            found.append((node.module, [alias.name for alias in node.names]))
        if isinstance(node, ast.Import):
            found.extend((alias.name, []) for alias in node.names)
    return found


def names_read_in(path):
    return {node.id for node in ast.walk(ast.parse(path.read_text())) if isinstance(node, ast.Name)}


class Interface(unittest.TestCase):
    def test_each_function_is_defined_in_its_file_with_its_arguments(self):
        for file, functions in INTERFACE.items():
            module = importlib.import_module("simplebetween." + file)
            for name, arguments in functions.items():
                with self.subTest(file=file, name=name):
                    function = getattr(module, name)
                    self.assertEqual(function.__module__, module.__name__)
                    self.assertEqual(list(inspect.signature(function).parameters), arguments)


class Files(unittest.TestCase):
    def test_nothing_is_imported_but_from_the_package_and_gcd(self):
        for path in sorted(FOLDER.glob("*.py")):
            for module, names in imports_of(path):
                with self.subTest(file=path.name, module=module):
                    if not module.startswith("simplebetween."):
                        self.assertIn(module, FROM_OUTSIDE)
                        self.assertLessEqual(set(names), set(FROM_OUTSIDE[module]))

    def test_no_file_is_opened_and_nothing_is_printed(self):
        for path in sorted(FOLDER.glob("*.py")):
            with self.subTest(file=path.name):
                self.assertEqual(names_read_in(path) & {"open", "print", "input", "__import__", "eval", "exec"}, set())

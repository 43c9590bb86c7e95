"""The names of the interface, where they stand, and the form of the files."""

import ast
import importlib
import inspect
import unittest
from pathlib import Path

PACKAGE = Path(__file__).resolve().parent.parent / "fewturns"

FUNCTIONS = {
    "fewturns/grids/texts.py": {"read_grid": ["text"], "grid_shown": ["grid"]},
    "fewturns/grids/ways.py": {"is_way": ["grid", "way"], "turns_of": ["grid", "way"]},
    "fewturns/grids/runs.py": {"runs_of": ["grid", "way"], "way_by": ["grid", "place", "text"]},
    "fewturns/least/ways.py": {
        "least_turns": ["grid", "one", "other"],
        "first_way": ["grid", "one", "other"],
    },
    "fewturns/least/tables.py": {
        "turns_from": ["grid", "place"],
        "table_shown": ["grid", "place", "table"],
        "widest": ["grid"],
    },
    "fewturns/counts/ways.py": {
        "count_ways": ["grid", "one", "other", "steps"],
        "count_stairs": ["grid", "one", "other"],
    },
    "fewturns/least/prices.py": {
        "lengths_by_turns": ["grid", "one", "other"],
        "least_cost": ["grid", "one", "other", "price"],
    },
    "fewturns/least/walls.py": {
        "best_opening": ["grid", "one", "other"],
        "places_that_matter": ["grid", "one", "other"],
    },
}

CLASSES = {
    "fewturns/errors.py": ["TurnError", "NoWay", "NoAsk", "NoGrid", "NoRuns", "NoPlace"],
    "fewturns/kept.py": ["KeptGrid"],
    "fewturns/whole.py": ["Desk"],
}

# By its class each method with its arguments, the object itself aside.
METHODS = {
    ("fewturns/kept.py", "KeptGrid"): {
        "__init__": ["rows", "columns"],
        "put_up": ["place"],
        "take_down": ["place"],
        "grid_now": [],
        "least_now": ["one", "other"],
        "reach_now": ["place"],
    },
    ("fewturns/whole.py", "Desk"): {"__init__": [], "ask": ["line"]},
}


# The parts of Python's own library that the language rules let in.
LIBRARY = ("heapq", "math", "itertools", "collections")


def module_of(path):
    return importlib.import_module(path.removesuffix(".py").replace("/", "."))


def files():
    return sorted(PACKAGE.rglob("*.py"))


class Names(unittest.TestCase):
    def test_functions_stand_in_their_files_with_their_arguments(self):
        for path, functions in FUNCTIONS.items():
            module = module_of(path)
            for name, arguments in functions.items():
                function = getattr(module, name)
                self.assertEqual(function.__module__, module.__name__)
                self.assertEqual(list(inspect.signature(function).parameters), arguments)

    def test_classes_stand_in_their_files(self):
        for path, classes in CLASSES.items():
            module = module_of(path)
            for name in classes:
                self.assertEqual(getattr(module, name).__module__, module.__name__)


    def test_methods_are_defined_in_their_classes_themselves(self):
        for (path, name), methods in METHODS.items():
            body = vars(getattr(module_of(path), name))
            for method, arguments in methods.items():
                self.assertEqual(list(inspect.signature(body[method]).parameters)[1:], arguments, (name, method))


class Form(unittest.TestCase):
    def test_lines_files_and_signs(self):
        for path in files():
            text = path.read_bytes().decode("ascii")
            self.assertTrue(all(sign == "\n" or " " <= sign <= "~" for sign in text), path)
            lines = text.split("\n")
            self.assertLessEqual(len(lines), 399, path)
            self.assertLessEqual(max(map(len, lines)), 120, path)

    def test_functions_are_short(self):
        for path in files():
            for node in ast.walk(ast.parse(path.read_text())):
                if isinstance(node, ast.FunctionDef):
                    self.assertLessEqual(node.end_lineno - node.lineno + 1, 40, (path, node.name))

    def test_only_the_package_is_imported(self):
        for path in files():
            for node in ast.walk(ast.parse(path.read_text())):
                self.assertNotIsInstance(node, ast.Import, path)
                if isinstance(node, ast.ImportFrom):
                    self.assertEqual(node.level, 0, path)
                    self.assertTrue(node.module.startswith("fewturns.") or node.module in LIBRARY, path)

    def test_each_folder_has_an_init(self):
        for path in files():
            self.assertTrue((path.parent / "__init__.py").is_file(), path)


if __name__ == "__main__":
    unittest.main()

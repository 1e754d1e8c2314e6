"""The introduction of the interface: where names stand, and what the rules of the language say of files."""

import ast
import inspect
import unittest
from pathlib import Path

import keptways
from keptways import errors
from keptways.base import nets, words

FOLDER = Path(keptways.__file__).parent
FILES = sorted(path for path in FOLDER.rglob("*") if "__pycache__" not in path.parts and path.is_file())

LIBRARY = ("collections", "heapq", "itertools", "math")

PARAMETERS = {words.is_integer: "value", words.is_word: "value", words.is_pair: "value"}
METHODS = {"tied": "self, one, other", "degree": "self, place", "near": "self, place", "cut": "self, lot",
           "joined": "self, one, other, many=1", "untied": "self, one, other, many=1", "with_place": "self, place",
           "without_place": "self, place", "merged": "self, lot, name", "part": "self, lot", "renamed": "self, names",
           "groups": "self", "lone_ties": "self", "__init__": "self, places, ties=None", "read": "*lines"}
SIGNS = ("__or__", "__add__", "__sub__", "__and__", "__contains__", "__len__", "__iter__", "__getitem__", "__eq__", "__str__")
PROPERTIES = ("places", "ties", "lines", "degrees", "size", "pairs", "odd", "even")
ERRORS = {"NetError": None, "InvalidWord": None, "InvalidNet": None, "InvalidLot": None, "InvalidWays": None,
          "InvalidGrowth": None, "InvalidStreets": None, "InvalidRow": None, "InvalidOperation": None,
          "ParseError": "line", "UnknownPlace": "asked", "NoWay": "ends", "NothingToUndo": "amount", "TooMany": "limit",
          "Refused": "cause", "InvalidNumber": "number"}


class Names(unittest.TestCase):

    def test_errors_stand_in_their_module(self):
        for name, attribute in ERRORS.items():
            self.assertEqual(getattr(errors, name).__module__, "keptways.errors")
            if attribute is not None:
                self.assertEqual(str(inspect.signature(getattr(errors, name))), f"({attribute})")

    def test_functions_stand_in_their_module(self):
        for function, parameters in PARAMETERS.items():
            self.assertEqual(function.__module__, "keptways.base.words")
            self.assertEqual(str(inspect.signature(function)), f"({parameters})")

    def test_the_class_has_its_methods_itself(self):
        self.assertEqual(nets.Net.__module__, "keptways.base.nets")
        for name, parameters in METHODS.items():
            self.assertIn(name, vars(nets.Net))
            self.assertEqual(str(inspect.signature(getattr(nets.Net, name))), f"({parameters})")
        for name in SIGNS:
            self.assertTrue(inspect.isfunction(vars(nets.Net)[name]), name)
        for name in PROPERTIES:
            self.assertIsInstance(vars(nets.Net)[name], property, name)
        self.assertIsInstance(vars(nets.Net)["read"], classmethod)


class Files(unittest.TestCase):

    def test_the_package_has_only_files_of_python(self):
        self.assertEqual([path for path in FILES if path.suffix != ".py"], [])
        for path in FILES:
            self.assertTrue((path.parent / "__init__.py").is_file(), path)

    def test_sizes_and_characters(self):
        for path in FILES:
            rows = path.read_text(encoding="utf-8").split("\n")
            self.assertLess(len(rows), 401, path)
            for row in rows:
                self.assertLessEqual(len(row), 120, path)
                self.assertTrue(all(" " <= sign <= "~" for sign in row), row)

    def test_functions_are_short(self):
        for path in FILES:
            for node in ast.walk(ast.parse(path.read_text(encoding="utf-8"))):
                if isinstance(node, ast.FunctionDef):
                    self.assertLessEqual(node.end_lineno - node.lineno + 1, 40, node.name)

    def test_imports_are_of_the_package_or_the_library(self):
        for path in FILES:
            for node in ast.walk(ast.parse(path.read_text(encoding="utf-8"))):
                self.assertNotIsInstance(node, ast.Import)
                if isinstance(node, ast.ImportFrom):
                    self.assertEqual(node.level, 0, path)
                    self.assertIn(node.module.split(".")[0], ("keptways", *LIBRARY), path)


if __name__ == "__main__":
    unittest.main()

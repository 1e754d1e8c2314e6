"""The rules of the language, as far as they can be read off the files of the package."""

import ast
import builtins
import re
import unittest
from pathlib import Path

import keptways

FOLDER = Path(keptways.__file__).parent
FILES = sorted(path for path in FOLDER.rglob("*") if "__pycache__" not in path.parts and path.is_file())
TREES = {path: ast.parse(path.read_text(encoding="utf-8")) for path in FILES if path.suffix == ".py"}
LIBRARY = ("collections", "heapq", "itertools", "math")

BUILTINS = """len range enumerate zip min max sum abs sorted reversed int str bool list tuple dict set isinstance ord repr any all
    divmod iter super property classmethod ValueError KeyError LookupError IndexError OverflowError ArithmeticError RuntimeError
    TypeError""".split()
METHODS = """append clear copy count endswith extend find get index insert isalnum isalpha isdigit islower isspace isupper items
    join keys ljust lower lstrip partition pop remove replace reverse rfind rjust rpartition rsplit rstrip setdefault split
    splitlines startswith strip update upper values zfill bit_length""".split()
SPECIAL = """__init__ __eq__ __str__ __len__ __iter__ __contains__ __getitem__ __or__ __add__ __sub__ __and__ __ror__ __radd__
    __rsub__ __rand__""".split()
BARRED = r"\b(type|typing|enum|Enum|Flag|Generic|Protocol|namedtuple|open|input|law|register|mro|elements|global|eval|exec)\b"
# An interpreter that shows values puts `_` among them.
BUILT = {*dir(builtins)} - {"_"}
PASSING = ("range", "zip", "enumerate", "reversed", "items", "keys", "values")
TAKING = ("list", "tuple", "dict", "sorted", "sum", "any", "all", "enumerate", "zip", "min", "max", "len", "reversed")


def nodes(kind):
    return [(path, node) for path, tree in TREES.items() for node in ast.walk(tree) if isinstance(node, kind)]


def parents(tree):
    return {child: node for node in ast.walk(tree) for child in ast.iter_child_nodes(node)}


def called(node):
    """The name of what is called, or an empty string."""
    if not isinstance(node, ast.Call):
        return ""
    return node.func.id if isinstance(node.func, ast.Name) else node.func.attr if isinstance(node.func, ast.Attribute) else ""


def parameters(function):
    told = function.args
    return [part.arg for part in (*told.posonlyargs, *told.args, *told.kwonlyargs, told.vararg, told.kwarg) if part is not None]


def assigned(function):
    """The names of parameters and variables of a function."""
    return {*parameters(function), *[node.id for node in ast.walk(function)
                                     if isinstance(node, ast.Name) and isinstance(node.ctx, ast.Store)]}


CLASSES = {node.name: node for _, node in nodes(ast.ClassDef)}
OWN = {node.name for _, node in nodes(ast.FunctionDef)}
GENERATORS = {node.name for _, node in nodes(ast.FunctionDef) if any(isinstance(part, ast.Yield) for part in ast.walk(node))}
PROPERTIES = {node.name for _, node in nodes(ast.FunctionDef)
              if any(isinstance(part, ast.Name) and part.id == "property" for part in node.decorator_list)}


class Files(unittest.TestCase):

    def test_the_package_has_only_files_of_python(self):
        self.assertEqual([path for path in FILES if path.suffix != ".py"], [])
        for path in FILES:
            self.assertTrue((path.parent / "__init__.py").is_file(), path)

    def test_sizes_and_characters(self):
        for path in FILES:
            rows = path.read_text(encoding="utf-8").split("\n")
            self.assertLess(len(rows), 401, path)
            for row in rows:
                self.assertLessEqual(len(row), 120, path)
                self.assertTrue(all(" " <= sign <= "~" for sign in row), row)

    def test_functions_are_short(self):
        for path, node in nodes(ast.FunctionDef):
            self.assertLessEqual(node.end_lineno - node.lineno + 1, 40, node.name)

    def test_all_has_a_docstring(self):
        for path, node in nodes((ast.Module, ast.ClassDef, ast.FunctionDef)):
            if not isinstance(node, ast.FunctionDef) or not node.name.startswith("__"):
                self.assertTrue(ast.get_docstring(node), (path, getattr(node, "name", "")))

    def test_modules_hold_plain_things(self):
        kinds = (ast.Expr, ast.ImportFrom, ast.FunctionDef, ast.ClassDef, ast.Assign)
        for path, tree in TREES.items():
            for node in tree.body:
                self.assertIsInstance(node, kinds, path)


class Imports(unittest.TestCase):

    def test_imports_are_of_the_package_or_the_library(self):
        for path, node in nodes((ast.Import, ast.ImportFrom)):
            self.assertIsInstance(node, ast.ImportFrom)
            self.assertEqual(node.level, 0, path)
            self.assertIn(node.module.split(".")[0], ("keptways", *LIBRARY), path)

    def test_imports_name_the_defining_file_and_are_used(self):
        for path, node in nodes(ast.ImportFrom):
            if node.module.startswith("keptways"):
                source = TREES[FOLDER.parent / (node.module.replace(".", "/") + ".py")]
                there = {part.name for part in source.body if isinstance(part, (ast.FunctionDef, ast.ClassDef))}
                there |= {name.id for part in source.body if isinstance(part, ast.Assign) for name in part.targets}
                used = {part.id for part in ast.walk(TREES[path]) if isinstance(part, ast.Name)}
                for name in node.names:
                    self.assertIn(name.name, there, path)
                    self.assertIn(name.name, used, path)
                    self.assertIsNone(name.asname)

    def test_imports_make_no_rounds(self):
        ahead = {path: {FOLDER.parent / (node.module.replace(".", "/") + ".py") for where, node in nodes(ast.ImportFrom)
                        if where == path and node.module.startswith("keptways")} for path in TREES}
        while ahead:
            free = [path for path in ahead if not ahead[path] & {*ahead}]
            self.assertTrue(free, ahead)
            for path in free:
                del ahead[path]


class Names(unittest.TestCase):

    def test_barred_words(self):
        for path in FILES:
            self.assertEqual(re.findall(BARRED, path.read_text(encoding="utf-8")), [], path)

    def test_names_are_bound_once(self):
        for path, tree in TREES.items():
            bound = [node.name for node in tree.body if isinstance(node, (ast.FunctionDef, ast.ClassDef))]
            bound += [name.id for node in tree.body if isinstance(node, ast.Assign) for name in node.targets]
            bound += [name.name for node in tree.body if isinstance(node, ast.ImportFrom) for name in node.names]
            self.assertEqual(len(bound), len({*bound}), path)
            self.assertFalse({*bound} & BUILT, path)

    def test_variables_hide_nothing(self):
        for path, tree in TREES.items():
            taken = {name.name for node in tree.body if isinstance(node, ast.ImportFrom) for name in node.names}
            taken |= {node.name for node in tree.body if isinstance(node, (ast.ClassDef, ast.FunctionDef))} | BUILT
            for node in ast.walk(tree):
                if isinstance(node, (ast.FunctionDef, ast.Lambda)):
                    self.assertFalse(assigned(node) & taken, (path, node.lineno, assigned(node) & taken))

    def test_attributes_methods_and_properties_have_names_of_their_own(self):
        plain = [node.name for _, node in nodes(ast.FunctionDef) if node.name not in PROPERTIES]
        self.assertFalse({*plain} & PROPERTIES)
        self.assertFalse((PROPERTIES | {node.attr for _, node in nodes(ast.Attribute) if isinstance(node.ctx, ast.Store)})
                         & {*dir(""), *dir([]), *dir({}), *dir(()), *dir(set()), *dir(0), *dir(b"")} - {"count", "index"})
        for name in CLASSES.values():
            methods = [node.name for node in name.body if isinstance(node, ast.FunctionDef)]
            kept = {node.attr for node in ast.walk(name) if isinstance(node, ast.Attribute) and isinstance(node.ctx, ast.Store)}
            self.assertEqual(len(methods), len({*methods}))
            self.assertFalse(kept & {*methods}, name.name)

    def test_generators_have_names_of_their_own(self):
        for name in GENERATORS:
            self.assertEqual(len([node for _, node in nodes(ast.FunctionDef) if node.name == name]), 1, name)

    def test_double_underscores(self):
        for path, node in nodes(ast.FunctionDef):
            if node.name.startswith("__"):
                self.assertIn(node.name, SPECIAL, path)
        for path, node in nodes(ast.Attribute):
            if node.attr.startswith("__"):
                self.assertEqual(node.attr, "__init__", path)


class Statements(unittest.TestCase):

    def test_kinds(self):
        barred = (ast.GeneratorExp, ast.Global, ast.Nonlocal, ast.With, ast.Match, ast.AugAssign, ast.AnnAssign, ast.NamedExpr,
                  ast.YieldFrom, ast.Delete, ast.Div, ast.Pow, ast.AsyncFunctionDef, ast.Await)
        for path, node in nodes(barred):
            if not (isinstance(node, ast.Pow) and path.name == "words.py"):
                self.fail((path, node.lineno, node))

    def test_only_own_errors_are_caught(self):
        for path, node in nodes(ast.Try):
            self.assertFalse(node.orelse or node.finalbody, (path, node.lineno))
            for handler in node.handlers:
                self.assertIsNone(handler.name, (path, handler.lineno))
                self.assertIn(handler.type.id, CLASSES, (path, handler.lineno))

    def test_decorators(self):
        for path, node in nodes((ast.FunctionDef, ast.ClassDef)):
            for mark in node.decorator_list:
                self.assertIn(mark.id, ("property", "classmethod"), path)

    def test_builtins(self):
        for path, node in nodes(ast.Name):
            if node.id in BUILT:
                self.assertIn(node.id, BUILTINS, (path, node.lineno))

    def test_methods_of_builtin_values(self):
        for path, node in nodes(ast.Call):
            if isinstance(node.func, ast.Attribute) and node.func.attr not in OWN:
                self.assertIn(node.func.attr, METHODS, (path, node.lineno))
                self.assertEqual(node.keywords, [], (path, node.lineno))

    def test_sets_are_not_kept(self):
        for path, tree in TREES.items():
            over = parents(tree)
            for node in ast.walk(tree):
                if isinstance(node, (ast.Set, ast.SetComp)) or called(node) == "set":
                    self.assertTrue(called(over[node]) in ("sorted", "len") or isinstance(over[node], ast.Compare), (path, node.lineno))

    def test_ranges_and_views_are_iterated_at_once(self):
        for path, tree in TREES.items():
            over = parents(tree)
            for node in ast.walk(tree):
                if called(node) in (*PASSING, *GENERATORS) and called(node) not in OWN - GENERATORS:
                    above = over[node]
                    self.assertTrue(called(above) in TAKING or isinstance(above, (ast.For, ast.comprehension))
                                    or called(node) == "range" and isinstance(above, ast.Assign), (path, node.lineno))

    def test_stars_stand_before_names(self):
        for path, node in nodes(ast.Call):
            for part in node.args:
                if isinstance(part, ast.Starred):
                    self.assertIsInstance(part.value, (ast.Name, ast.Attribute), (path, node.lineno))
                    self.assertFalse(isinstance(part.value, ast.Attribute) and part.value.attr in PROPERTIES, (path, node.lineno))

    def test_is_stands_beside_none_only(self):
        for path, node in nodes(ast.Compare):
            if any(isinstance(sign, (ast.Is, ast.IsNot)) for sign in node.ops):
                self.assertIsInstance(node.comparators[0], ast.Constant, (path, node.lineno))

    def test_errors_are_made_where_they_are_raised(self):
        for path, node in nodes(ast.Raise):
            self.assertIn(called(node.exc), CLASSES, (path, node.lineno))

    def test_strings(self):
        for path, node in nodes(ast.Constant):
            if isinstance(node.value, str):
                self.assertNotIn("%", node.value, path)

    def test_loops_leave_alone_what_they_go_over(self):
        for path, node in nodes(ast.For):
            told = {ast.dump(part).replace("Store()", "Load()") for part in ast.walk(node.iter) if isinstance(part, (ast.Name, ast.Attribute))}
            for part in [part for row in node.body for part in ast.walk(row)]:
                if called(part) in ("append", "pop", "extend", "insert", "clear", "update", "remove", "setdefault"):
                    self.assertNotIn(ast.dump(part.func.value), told, (path, part.lineno))
                if isinstance(part, ast.Subscript) and isinstance(part.ctx, ast.Store):
                    self.assertNotIn(ast.dump(part.value), told, (path, part.lineno))

    def test_lengths_and_texts(self):
        for path, node in nodes(ast.FunctionDef):
            if node.name in ("__len__", "__str__"):
                for part in ast.walk(node):
                    self.assertNotIsInstance(part, ast.Assign, (path, part))
                    if isinstance(part, ast.Return):
                        self.assertTrue(called(part.value) == "len" if node.name == "__len__"
                                        else isinstance(part.value, (ast.JoinedStr, ast.Constant)), (path, part.lineno))
                self.assertIsInstance(node.body[-1], ast.Return)


if __name__ == "__main__":
    unittest.main()

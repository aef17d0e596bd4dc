"""The interface, and those rules of the language that are easily seen in the files of the package."""

import ast
import builtins
import importlib
import inspect
import unittest
from pathlib import Path

FOLDER = Path(__file__).resolve().parent.parent / "cellplaces"
FILES = sorted(FOLDER.rglob("*.py"))

# The parameters of the functions, by modules.
FUNCTIONS = {
    "forms": {"letter": ["name"], "number": ["value"]},
    "texts": {"read": ["text"], "write": ["form"]},
    "shapes": {"shortage": ["loops"], "walk": ["shape", "values", "count"]},
    "places": {"count": ["shape"], "place": ["shape"], "place_of": ["shape", "values", "cell"],
               "cell_at": ["shape", "values", "place"], "next_cell": ["shape", "values", "cell"]},
    "judged": {"differ": ["shape", "one", "other"], "wrong_at": ["shape", "formula"]},
    "orders": {"same_cells": ["one", "other"], "laid": ["shapes"]},
    "plain": {"own_order": ["table"], "clash": ["table"], "hole": ["table"], "cell_of": ["table", "values", "place"]},
    "moves": {"jumps": ["table", "walk"], "smooth": ["table"], "kept": ["table", "size"], "arranged": ["sides", "size"],
              "joined": ["table", "walk"], "same_run": ["table", "walk", "other", "route"]},
    "rings": {"turned": ["rows", "columns", "place", "times"], "ring_length": ["rows", "columns", "place"],
              "rings": ["rows", "columns"]},
}
SHAPE = {"__init__": ["loops"], "__eq__": ["other"], "__len__": [], "names": [], "loops": [], "sizes": []}
PLAIN = {"__init__": ["sides"], "__eq__": ["other"], "__len__": [], "sides": [], "sizes": [], "formula": []}
STORE = {"__init__": ["table", "values"], "__len__": [], "lay": ["cell", "item"], "look": ["cell"], "take": ["cell"],
         "sizes": [], "held": [], "grow": ["size"], "limit": ["room"], "undo": [], "trial": [], "attempt": ["action"],
         "copy": []}
METHODS = {
    "__add__": ["other"], "__sub__": ["other"], "__mul__": ["other"], "__neg__": [], "__eq__": ["other"],
    "over": ["divisor"], "terms": [], "letters": [], "degree": [], "at": ["values"], "put": ["name", "other"],
}
BUILTINS = """len range enumerate zip min max sum abs sorted reversed int str bool bytes list tuple dict set frozenset
    isinstance ord repr any all divmod pow getattr hasattr setattr map iter next super property staticmethod classmethod
    Exception ValueError TypeError KeyError IndexError LookupError ZeroDivisionError ArithmeticError OverflowError
    RuntimeError NotImplementedError AttributeError StopIteration NotImplemented object float""".split()
OF_BUILTINS = """append clear copy count endswith extend find get index insert isalnum isalpha isdigit islower isspace
    isupper items join keys ljust lower lstrip partition pop remove replace reverse rfind rjust rpartition rsplit rstrip
    setdefault split splitlines startswith strip update upper values zfill bit_length""".split()
LIBRARY = {"math": "gcd lcm isqrt comb perm factorial", "heapq": "heapify heappop heappush heappushpop heapreplace",
           "itertools": "product combinations permutations chain accumulate pairwise islice zip_longest",
           "collections": "defaultdict", "__future__": "annotations"}


def tree_of(path):
    return ast.parse(path.read_text(encoding="utf-8"))


def nodes(kind):
    return [(path.name, node) for path in FILES for node in ast.walk(tree_of(path)) if isinstance(node, kind)]


class Interface(unittest.TestCase):

    def test_functions(self):
        for name, functions in FUNCTIONS.items():
            module = importlib.import_module("cellplaces." + name)
            for function, parameters in functions.items():
                found = getattr(module, function)
                self.assertEqual(found.__module__, module.__name__)
                self.assertEqual(list(inspect.signature(found).parameters), parameters)

    def test_methods_of_forms(self):
        forms = importlib.import_module("cellplaces.forms")
        own = vars(forms.letter("a").__class__)
        for name, parameters in METHODS.items():
            self.assertEqual(list(inspect.signature(own[name]).parameters)[1:], parameters, name)

    def test_methods_of_classes(self):
        for file, name, methods in [("shapes", "Shape", SHAPE), ("plain", "Plain", PLAIN), ("live", "Store", STORE)]:
            module = importlib.import_module("cellplaces." + file)
            own = getattr(module, name)
            self.assertEqual(own.__module__, module.__name__)
            for method, parameters in methods.items():
                self.assertEqual(list(inspect.signature(vars(own)[method]).parameters)[1:], parameters, method)

    def test_room_is_a_property(self):
        room = vars(importlib.import_module("cellplaces.live").Store)["room"]
        self.assertIsInstance(room, property)
        self.assertIsNotNone(room.fset)

    def test_times_may_be_left_out(self):
        turned = importlib.import_module("cellplaces.rings").turned
        self.assertEqual(inspect.signature(turned).parameters["times"].default, 1)

    def test_no_more_than_asked(self):
        own = vars(importlib.import_module("cellplaces.forms").letter("a").__class__)
        for name in ["__radd__", "__rsub__", "__rmul__", "__truediv__", "__pow__"]:
            self.assertNotIn(name, own)


class Language(unittest.TestCase):

    def test_files(self):
        for path in FOLDER.rglob("*"):
            if path.name != "__pycache__" and path.parent.name != "__pycache__":
                self.assertTrue(path.is_dir() or path.suffix == ".py", path)
                self.assertEqual(path.name, path.name.lower())

    def test_lines(self):
        for path in FILES:
            text = path.read_text(encoding="utf-8")
            self.assertTrue(all(" " <= sign <= "~" or sign == "\n" for sign in text), path)
            lines = text.splitlines()
            self.assertLess(len(lines), 400, path)
            self.assertLessEqual(max(map(len, lines)), 120, path)

    def test_functions(self):
        for name, node in nodes((ast.FunctionDef, ast.Lambda)):
            self.assertLessEqual(node.end_lineno - node.lineno + 1, 40, (name, node.lineno))

    def test_imports(self):
        self.assertEqual(nodes(ast.Import), [])
        for name, node in nodes(ast.ImportFrom):
            self.assertEqual(node.level, 0)
            for part in node.names:
                self.assertIsNone(part.asname)
                if node.module.startswith("cellplaces."):
                    path = FOLDER / (node.module.split(".", 1)[1].replace(".", "/") + ".py")
                    defined = [row.name for row in tree_of(path).body if hasattr(row, "name")]
                    self.assertIn(part.name, defined, name)
                else:
                    self.assertIn(part.name, LIBRARY[node.module].split(), name)

    def test_builtins(self):
        for name, node in nodes(ast.Name):
            if hasattr(builtins, node.id):
                self.assertIn(node.id, BUILTINS, (name, node.lineno))
                self.assertIsInstance(node.ctx, ast.Load, (name, node.lineno))
        for name, node in nodes(ast.arg):
            self.assertFalse(hasattr(builtins, node.arg), (name, node.lineno))

    def test_methods(self):
        own = [node.name for _, node in nodes(ast.FunctionDef)]
        for name, node in nodes(ast.Call):
            if isinstance(node.func, ast.Attribute):
                self.assertIn(node.func.attr, OF_BUILTINS + own, (name, node.lineno))
                if node.func.attr in OF_BUILTINS:
                    self.assertEqual(node.keywords, [], (name, node.lineno))

    def test_attributes(self):
        # An attribute is no method of its own class and of no builtin value.
        for name, node in nodes(ast.ClassDef):
            methods = [row.name for row in node.body if isinstance(row, ast.FunctionDef)]
            for part in ast.walk(node):
                if isinstance(part, ast.Attribute) and isinstance(part.ctx, ast.Store):
                    self.assertNotIn(part.attr, methods + OF_BUILTINS, (name, part.lineno))

    def test_names_of_imports_and_classes(self):
        for path in FILES:
            tree = tree_of(path)
            bound = [part.name for row in tree.body if isinstance(row, ast.ImportFrom) for part in row.names]
            bound += [row.name for row in tree.body if hasattr(row, "name")]
            self.assertEqual(len(bound), len(set(bound)), path)
            own = [row.name for row in tree.body if isinstance(row, ast.FunctionDef)]
            for node in ast.walk(tree):
                if isinstance(node, ast.arg):
                    self.assertNotIn(node.arg, set(bound) - set(own), (path.name, node.lineno))
                if isinstance(node, ast.Name) and isinstance(node.ctx, ast.Store):
                    self.assertNotIn(node.id, bound, (path.name, node.lineno))

    def test_no_two_files_import_each_other(self):
        left = {path.stem: [node.module.split(".")[1] for node in ast.walk(tree_of(path))
                            if isinstance(node, ast.ImportFrom) and node.module.startswith("cellplaces.")]
                for path in FILES}
        while left:
            free = [name for name, others in left.items() if not any(other in left for other in others)]
            self.assertNotEqual(free, [], left)
            left = {name: others for name, others in left.items() if name not in free}

    def test_lists_beside_own_comparisons(self):
        self.assertEqual(nodes(ast.GeneratorExp), [])
        for name, node in nodes(ast.Attribute):
            self.assertNotEqual(node.attr, "sort", (name, node.lineno))

    def test_values(self):
        for name, node in nodes(ast.Constant):
            self.assertNotIsInstance(node.value, (float, complex), (name, node.lineno))
            if isinstance(node.value, str):
                self.assertNotIn("%", node.value, (name, node.lineno))

    def test_statements(self):
        barred = (ast.Global, ast.AsyncFunctionDef, ast.AsyncFor, ast.AsyncWith, ast.Await, ast.Div)
        self.assertEqual(nodes(barred), [])


if __name__ == "__main__":
    unittest.main()

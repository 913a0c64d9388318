"""The form of the package: the names of the interface, and those rules of the language that are easy to check."""

import ast
import builtins
import importlib
import inspect
import pathlib
import re
import unittest

FOLDER = pathlib.Path(__file__).resolve().parent.parent / "handwalk"

FUNCTIONS = {
    "permutations": {
        "is_permutation": "(value)",
        "compose": "(*permutations)",
        "inverse": "(permutation)",
        "cycles": "(permutation)",
        "order": "(permutation)",
        "is_even": "(permutation)",
    },
    "moves": {
        "check_state": "(network, state)",
        "trace": "(network, state, *steps)",
        "after": "(network, state, *steps)",
        "back": "(*steps)",
        "reduced": "(*steps)",
        "effect": "(network, place, *steps)",
    },
    "decisions": {
        "parts": "(network)",
        "is_reachable": "(network, state)",
        "decide": "(network, state)",
        "check_decision": "(network, state, answer)",
    },
    "listing": {
        "count_arrangements": "(network)",
        "count_states": "(network)",
        "states": "(network)",
        "farthest": "(network)",
        "walk_to": "(network, state)",
    },
    "bringing": {"reachable_spots": "(network, thing)", "bring": "(network, thing, position, *, place=None)"},
    "kinds": {"match": "(network, kinds, pattern)", "count_patterns": "(network, kinds)"},
}

GENERATORS = (("moves", "trace"), ("listing", "states"))

METHODS = {
    ("networks", "Network"): {
        "__init__": "(self, places, passages)",
        "is_valid": "(places, passages)",
        "joined": "(*passages)",
        "__len__": "(self)",
        "__eq__": "(self, other)",
        "passages_at": "(self, place)",
        "far_end": "(self, passage, place)",
        "way": "(self, place, goal)",
    },
    ("parts", "Part"): {"arrangements": "(self)", "problem": "(self, things)"},
    ("parts", "EvenPart"): {"arrangements": "(self)", "problem": "(self, things)"},
    ("parts", "RingPart"): {"arrangements": "(self)", "problem": "(self, things)"},
    ("parts", "SpecialPart"): {
        "arrangements": "(self)",
        "problem": "(self, things)",
        "keeps_ratio": "(self, things, four)",
    },
    ("errors", "InvalidNetwork"): {"__init__": "(self, part, index=None)"},
    ("errors", "InvalidPlace"): {"__init__": "(self, value)"},
    ("errors", "InvalidPassage"): {"__init__": "(self, value)"},
    ("errors", "InvalidState"): {"__init__": "(self, part)"},
    ("errors", "InvalidWalk"): {"__init__": "(self, index)"},
    ("errors", "InvalidPermutation"): {"__init__": "(self, value)"},
    ("errors", "SizeMismatch"): {"__init__": "(self, sizes)"},
    ("errors", "InvalidAnswer"): {"__init__": "(self, part)"},
    ("errors", "LimitExceeded"): {"__init__": "(self, limit)"},
    ("errors", "InvalidThing"): {"__init__": "(self, value)"},
    ("errors", "InvalidPosition"): {"__init__": "(self, value)"},
    ("errors", "InvalidKinds"): {"__init__": "(self, part, index=None)"},
    ("errors", "NothingToUndo"): {"__init__": "(self)"},
    ("errors", "ParseError"): {"__init__": "(self, line, word)"},
    ("walkers", "Walker"): {
        "__init__": "(self, network, *steps)",
        "__len__": "(self)",
        "__eq__": "(self, other)",
        "step": "(self, passage)",
        "walk": "(self, *steps)",
        "peek": "(self, *steps)",
        "back": "(self)",
        "history": "(self)",
        "choices": "(self)",
        "summary": "(self)",
        "copy": "(self)",
        "text": "(self)",
        "read": "(text)",
        "is_text": "(value)",
    },
    ("walkers", "Stroller"): {"step": "(self, passage)", "walk": "(self, *steps)", "peek": "(self, *steps)"},
    ("walkers", "Carrier"): {
        "__init__": "(self, network, *steps, thing, position)",
        "__eq__": "(self, other)",
        "summary": "(self)",
        "copy": "(self)",
        "left": "(self)",
    },
    ("walkers", "StrollingCarrier"): {"__init__": "(self, network, *steps, thing, position)"},
    ("console", "Console"): {"__init__": "(self)", "run": "(self, command)"},
}

STATIC_METHODS = (("networks", "Network", "is_valid"), ("walkers", "Walker", "is_text"))
CLASS_METHODS = (("networks", "Network", "joined"), ("walkers", "Walker", "read"))

PROPERTIES = {
    ("networks", "Network"): ("places", "passages", "start", "bridges", "cells"),
    ("parts", "Part"): ("name", "cell", "gate", "seats", "rings"),
    ("parts", "RingPart"): ("circle",),
    ("parts", "SpecialPart"): ("marks",),
    ("walkers", "Walker"): ("network", "state", "place", "things", "hand", "steps", "is_home"),
    ("walkers", "Carrier"): ("thing", "position", "is_done", "arrivals"),
}

LIBRARY = {
    "heapq": {"heappush", "heappop", "heapify", "heapreplace", "heappushpop"},
    "math": {"gcd", "lcm", "isqrt", "comb", "perm", "factorial"},
    "itertools": {
        "product", "combinations", "permutations", "chain", "accumulate", "pairwise", "islice", "zip_longest",
    },
    "collections": {"defaultdict", "deque"},
}

BUILTINS = set("""
    len range enumerate zip min max sum abs sorted reversed int str bool list tuple dict set isinstance ord repr any all
    divmod pow map iter next super property staticmethod classmethod ValueError TypeError KeyError IndexError
    LookupError NotImplemented StopIteration type
""".split())


def trees():
    """Return the pairs of the files of the package and their syntax trees."""
    return [(path, ast.parse(path.read_text(encoding="ascii"))) for path in sorted(FOLDER.glob("*.py"))]


def read(module, name):
    return getattr(importlib.import_module("handwalk." + module), name)


class TestInterface(unittest.TestCase):
    def test_functions(self):
        for module, functions in FUNCTIONS.items():
            for name, parameters in functions.items():
                with self.subTest(name):
                    function = read(module, name)
                    self.assertEqual(function.__module__, "handwalk." + module)
                    self.assertEqual(str(inspect.signature(function)), parameters)

    def test_generators(self):
        for module, name in GENERATORS:
            self.assertTrue(inspect.isgeneratorfunction(read(module, name)))
        for name in ("history", "choices"):
            self.assertTrue(inspect.isgeneratorfunction(getattr(read("walkers", "Walker"), name)))

    def test_methods_are_defined_in_their_class(self):
        for (module, name), methods in METHODS.items():
            owner = read(module, name)
            self.assertEqual(owner.__module__, "handwalk." + module)
            for method, parameters in methods.items():
                with self.subTest(name, method=method):
                    self.assertIn(method, vars(owner))
                    self.assertEqual(str(inspect.signature(getattr(owner, method))), parameters)

    def test_properties_are_defined_in_their_class(self):
        for (module, name), properties in PROPERTIES.items():
            for word in properties:
                with self.subTest(name, word=word):
                    self.assertIsInstance(vars(read(module, name))[word], property)

    def test_static_and_class_methods(self):
        for module, name, method in STATIC_METHODS:
            self.assertIsInstance(vars(read(module, name))[method], staticmethod)
        for module, name, method in CLASS_METHODS:
            self.assertIsInstance(vars(read(module, name))[method], classmethod)


class TestLanguage(unittest.TestCase):
    def test_the_folder_contains_only_plain_files(self):
        names = [path.name for path in FOLDER.iterdir() if path.name != "__pycache__"]
        self.assertIn("__init__.py", names)
        for name in names:
            self.assertRegex(name, r"\A[a-z_]+\.py\Z")

    def test_sizes_and_characters(self):
        for path, tree in trees():
            text = path.read_text(encoding="ascii")
            self.assertRegex(text, r"\A[ -~\n]*\n\Z", path.name)
            self.assertLess(len(text.splitlines()), 400, path.name)
            for number, line in enumerate(text.splitlines(), 1):
                self.assertLessEqual(len(line), 120, (path.name, number))
            for node in ast.walk(tree):
                if isinstance(node, ast.FunctionDef):
                    self.assertLess(node.end_lineno - node.lineno, 40, (path.name, node.name))

    def test_imports(self):
        for path, tree in trees():
            inner = [node for node in ast.walk(tree) if isinstance(node, (ast.Import, ast.ImportFrom))]
            for node in inner:
                self.assertIsInstance(node, ast.ImportFrom, path.name)
                self.assertIn(node, tree.body, path.name)
                self.assertEqual(node.level, 0, path.name)
                names = {alias.name for alias in node.names}
                if not node.module.startswith("handwalk."):
                    self.assertLessEqual(names, LIBRARY.get(node.module, set()), path.name)

    def test_builtins_and_literals(self):
        for path, tree in trees():
            for node in ast.walk(tree):
                # The tests of the examples, which may run before, make _ a builtin.
                if isinstance(node, ast.Name) and node.id != "_" and hasattr(builtins, node.id):
                    self.assertIn(node.id, BUILTINS, (path.name, node.lineno))
                    self.assertIsInstance(node.ctx, ast.Load, (path.name, node.lineno))
                if isinstance(node, ast.Constant):
                    self.assertNotIsInstance(node.value, (float, complex), (path.name, node.lineno))

    def test_classes_are_only_compared(self):
        for path, tree in trees():
            text = path.read_text(encoding="ascii")
            calls = [node for node in ast.walk(tree) if isinstance(node, ast.Name) and node.id == "type"]
            self.assertEqual(len(calls), 2 * len(re.findall(r"\btype\(\w+\) is type\(\w+\)", text)), path.name)

    def test_generators_share_their_names_with_nothing(self):
        names = []
        for _, tree in trees():
            names += [node.name for node in ast.walk(tree) if isinstance(node, ast.FunctionDef)]
        for name in ("trace", "states", "history", "choices"):
            self.assertEqual(names.count(name), 1)


if __name__ == "__main__":
    unittest.main()

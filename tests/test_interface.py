"""The interface as the document writes it, and the plain bounds on the files of the package."""

import ast
import importlib
import inspect
import os
import unittest

import ringfences

FOLDER = os.path.dirname(ringfences.__file__)

INTERFACE = {
    "programs": {
        "is_program": ["value"],
        "is_buffers": ["value"],
        "variables_of": ["program"],
        "accesses": ["program"],
        "meets": ["program", "one", "other"],
    },
    "steps": {
        "is_step": ["value"],
        "start": ["program"],
        "after": ["program", "buffers", "state", "step"],
        "possible": ["program", "buffers", "state"],
    },
    "runs": {
        "is_run": ["program", "buffers", "value"],
        "states_of": ["program", "buffers", "run"],
        "walk": ["program", "buffers", "run"],
        "is_complete": ["program", "buffers", "run"],
        "is_plain": ["program", "buffers", "run"],
        "completed": ["program", "buffers", "run"],
    },
    "stories": {
        "story_of": ["program", "buffers", "run"],
        "is_story": ["program", "value"],
        "plain_order": ["program", "story"],
        "shows_plain": ["program", "story", "value"],
        "story_ring": ["program", "story"],
        "shows_story_ring": ["program", "story", "value"],
    },
    "facts": {
        "facts": ["program", "buffers", "run"],
        "is_torn": ["program", "buffers", "run"],
        "torn_ring": ["program", "buffers", "run"],
        "shows_torn_ring": ["program", "buffers", "run", "value"],
    },
    "pairs": {
        "loose_pairs": ["program", "buffers"],
        "live_pairs": ["program", "buffers"],
        "ring_for": ["program", "buffers", "pair"],
        "shows_ring": ["program", "pair", "value"],
        "is_faithful": ["program", "buffers"],
        "least_room": ["program", "word"],
    },
    "tearing": {
        "fewest_steps": ["program", "buffers"],
        "tearing_run": ["program", "buffers"],
        "shows_tearing": ["program", "buffers", "value"],
    },
    "remedies": {
        "is_remedies": ["program", "value"],
        "cuts": ["remedy", "pair"],
        "applied": ["program", "remedies"],
        "shows_cure": ["program", "buffers", "value"],
        "fewest": ["program", "buffers", "word"],
        "apart": ["program", "buffers", "word"],
        "shows_apart": ["program", "buffers", "word", "value"],
    },
    "prices": {
        "is_price_list": ["program", "value"],
        "cheapest": ["program", "buffers", "price_list"],
        "weights": ["program", "buffers", "price_list"],
        "shows_weights": ["program", "buffers", "price_list", "total", "value"],
    },
    "needless": {
        "needless_fences": ["program", "buffers"],
        "thinned": ["program", "buffers"],
    },
    "exploring": {
        "story_count": ["program", "buffers"],
        "stories": ["program", "buffers"],
        "plain_count": ["program"],
    },
    "machine": {
        "tried": ["machine", "look"],
    },
    "texts": {
        "format_program": ["program"],
        "format_run": ["run"],
        "format_remedies": ["remedies"],
        "parse_program": ["text"],
        "parse_run": ["text"],
        "parse_remedies": ["program", "text"],
        "listing": ["program", "buffers", "run"],
    },
}
# The methods of each class that are called by their names, and the arguments behind the object.
CLASSES = {
    ("guards", "Guard"): {
        "__init__": ["program", "remedies"], "is_within": ["other"], "left": ["buffers"], "cost": ["price_list"],
        "least": ["buffers"], "program_now": [],
    },
    ("machine", "Machine"): {
        "__init__": ["program", "buffers"], "do": ["step"], "__call__": ["step"], "undo": [], "possible": [],
        "facts": [], "is_torn": [], "is_complete": [], "story": [], "finish": [], "copy": [],
    },
    ("machine", "Trial"): {"__init__": ["machine"], "__enter__": []},
    ("desk", "Desk"): {"__init__": [], "say": ["line"]},
}
# What is listed besides, by signs and as attributes.
SIGNS = {
    ("guards", "Guard"): ["__len__", "__contains__", "__add__", "__sub__", "__eq__", "program", "remedies"],
    ("machine", "Machine"): ["__len__", "__getitem__", "__eq__", "replayed", "program", "buffers", "state", "steps"],
    ("machine", "Trial"): ["__exit__"],
    ("desk", "Desk"): [],
}
GENERATORS = ["walk", "stories"]
LIBRARY = ("heapq", "math", "itertools", "collections", "__future__")


def files():
    return sorted(name for name in os.listdir(FOLDER) if name != "__pycache__")


def text_of(name):
    with open(os.path.join(FOLDER, name), encoding="utf-8") as held:
        return held.read()


class Interface(unittest.TestCase):
    def test_names_and_arguments(self):
        for name, functions in INTERFACE.items():
            module = importlib.import_module("ringfences." + name)
            for function, wanted in functions.items():
                parameters = inspect.signature(getattr(module, function)).parameters.values()
                self.assertEqual(wanted, [parameter.name for parameter in parameters], function)
                for parameter in parameters:
                    self.assertIs(inspect.Parameter.POSITIONAL_OR_KEYWORD, parameter.kind, function)
                    self.assertIs(inspect.Parameter.empty, parameter.default, function)

    def test_defined_in_their_files(self):
        for name, functions in INTERFACE.items():
            defined = [
                node.name for node in ast.parse(text_of(name + ".py")).body
                if isinstance(node, (ast.FunctionDef, ast.ClassDef))
            ]
            for function in functions:
                self.assertEqual(1, defined.count(function), function)

    def test_methods_and_arguments(self):
        for (name, title), methods in CLASSES.items():
            found = getattr(importlib.import_module("ringfences." + name), title)
            for method, wanted in methods.items():
                parameters = list(inspect.signature(getattr(found, method)).parameters.values())
                self.assertEqual(["self"] + wanted, [parameter.name for parameter in parameters], method)
                for parameter in parameters:
                    self.assertIs(inspect.Parameter.POSITIONAL_OR_KEYWORD, parameter.kind, method)
                    default = () if (method, parameter.name) == ("__init__", "remedies") else inspect.Parameter.empty
                    self.assertEqual(default, parameter.default, method)
        replayed = getattr(importlib.import_module("ringfences.machine"), "Machine").replayed
        self.assertEqual(["program", "buffers", "run"], list(inspect.signature(replayed).parameters))

    def test_classes_are_defined_in_their_files(self):
        for name, title in CLASSES:
            nodes = [
                node for node in ast.parse(text_of(name + ".py")).body
                if isinstance(node, ast.ClassDef) and node.name == title
            ]
            self.assertEqual(1, len(nodes), title)
            defined = [node.name for node in nodes[0].body if isinstance(node, ast.FunctionDef)]
            for method in list(CLASSES[name, title]) + SIGNS[name, title]:
                self.assertEqual(1, defined.count(method), (title, method))

    def test_generators(self):
        for name, functions in INTERFACE.items():
            module = importlib.import_module("ringfences." + name)
            for function in functions:
                wanted = function in GENERATORS
                self.assertIs(wanted, inspect.isgeneratorfunction(getattr(module, function)), function)


class Files(unittest.TestCase):
    def test_only_python_files(self):
        self.assertIn("__init__.py", files())
        for name in files():
            self.assertRegex(name, r"^[a-z_]+\.py$")

    def test_characters_and_sizes(self):
        for name in files():
            lines = text_of(name).split("\n")
            self.assertLess(len(lines), 400, name)
            for line in lines:
                self.assertLessEqual(len(line), 120, name)
                self.assertTrue(all(" " <= letter <= "~" for letter in line), name)

    def test_functions_are_small(self):
        for name in files():
            for node in ast.walk(ast.parse(text_of(name))):
                if isinstance(node, ast.FunctionDef):
                    self.assertLessEqual(node.end_lineno - node.lineno + 1, 40, node.name)

    def test_imports(self):
        for name in files():
            for node in ast.walk(ast.parse(text_of(name))):
                self.assertNotIsInstance(node, ast.Import, name)
                if isinstance(node, ast.ImportFrom):
                    self.assertEqual(0, node.level, name)
                    self.assertIn(node.module.split(".")[0], ("ringfences",) + LIBRARY, name)

import ast
import os
import unittest

FOLDER = os.path.join(os.path.dirname(os.path.dirname(os.path.abspath(__file__))), "firstbooks")

FUNCTIONS = {
    "marks": {"marks": "number", "number_of": "places", "top": "number"},
    "papers": {
        "why": "house number", "shows_why": "house number paper", "whole": "house", "shows_whole": "bars paper",
        "barred_by": "house number book",
    },
    "idle": {
        "turning": "house bar", "idle_bars": "house", "core": "house", "how_many_cores": "house",
        "is_core": "house bars", "how_many_alike": "house powers",
    },
    "shelf": {
        "first": "house book", "nth": "house book place", "count": "house book below",
        "behind": "house book number", "ahead": "house book number", "place": "house number",
    },
}

CLASSES = {
    ("house", "House"): {
        "__init__": "self bars", "put": "self bar", "take": "self bar", "bars": "self", "sees": "self number other",
        "book_of": "self number", "home": "self power", "height": "self", "new": "self", "books": "self",
        "checks": "self", "__eq__": "self other", "__len__": "self",
    },
    ("spans", "Span"): {
        "__init__": "self numbers", "add": "self number", "rank": "self", "holds": "self number", "nth": "self place",
        "order_of": "self number", "below": "self bound", "rows": "self", "rest": "self number",
        "made_of": "self number",
    },
}


def defined(body):
    """Tell the functions and classes that stand in a body, by their names."""
    return {node.name: node for node in body if isinstance(node, (ast.FunctionDef, ast.ClassDef))}


def file_body(name):
    with open(os.path.join(FOLDER, name + ".py"), encoding="utf-8") as held:
        return ast.parse(held.read()).body


class TestInterface(unittest.TestCase):
    def check(self, function, names, where):
        told = [arg.arg for arg in function.args.posonlyargs + function.args.args]
        self.assertEqual(told, names.split(), where)
        self.assertEqual(function.args.posonlyargs, [], where)

    def test_functions_stand_in_their_files(self):
        for name, functions in FUNCTIONS.items():
            there = defined(file_body(name))
            for function, names in functions.items():
                self.check(there[function], names, (name, function))

    def test_classes_have_their_methods_themselves(self):
        for (name, kind), methods in CLASSES.items():
            there = defined(defined(file_body(name))[kind].body)
            for method, names in methods.items():
                self.check(there[method], names, (name, kind, method))


if __name__ == "__main__":
    unittest.main()

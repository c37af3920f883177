import ast
import os
import unittest

FOLDER = os.path.join(os.path.dirname(os.path.dirname(os.path.abspath(__file__))), "firstbooks")

FUNCTIONS = {
    "marks": {"marks": "number", "number_of": "places", "top": "number"},
    "papers": {
        "why": "house number", "shows_why": "house number paper", "whole": "house", "shows_whole": "bars paper",
        "barred_by": "house number book",
    },
    "idle": {
        "turning": "house bar", "idle_bars": "house", "core": "house", "how_many_cores": "house",
        "is_core": "house bars", "how_many_alike": "house powers",
    },
    "checks": {"homes_of": "checks powers"},
    "asks": {
        "tells_apart": "numbers powers", "shows_asks": "numbers powers paper", "fewest_more": "numbers powers",
    },
    "texts": {
        "show_town": "town", "read_town": "text", "show_why": "number paper", "read_why": "text",
        "shows_text": "house text",
    },
    "shelf": {
        "first": "house book", "nth": "house book place", "count": "house book below",
        "behind": "house book number", "ahead": "house book number", "place": "house number",
    },
    "apart": {
        "parts": "one other", "unlike": "one other below", "pairs_met": "one other", "pair_first": "one other pair",
        "pair_nth": "one other pair place", "pair_count": "one other pair below",
    },
    "renamed": {"renamed": "one other", "shows_renamed": "one other paper"},
    "beside": {"beside": "one other lift", "raised": "house places"},
    "wishes": {
        "can_be": "homes", "fewest": "homes", "of_menu": "homes menu * prices=None", "turned_into": "house homes",
    },
    "fewmarks": {
        "fewest_marks": "house book", "shows_fewest": "house book paper", "with_marks": "house book many power",
    },
    "even": {
        "even_book": "number", "halves": "book", "from_halves": "signs", "even_first": "book",
        "even_nth": "book place", "even_count": "book below", "even_behind": "book number",
        "even_ahead": "book number", "even_place": "number", "even_reach": "below", "even_lacks": "book",
    },
    "steps": {
        "steps_many": "number book", "step_least": "number book", "step_greatest": "number book",
        "is_step": "number book step", "even_paper": "number", "shows_even": "number paper",
        "led_on": "number book step signs",
    },
    "long": {
        "is_taken": "prime number", "long_step": "prime number", "is_long_step": "prime number step",
        "long_nth": "prime place", "long_count": "prime below",
    },
}

CLASSES = {
    ("house", "House"): {
        "__init__": "self bars", "put": "self bar", "take": "self bar", "bars": "self", "sees": "self number other",
        "book_of": "self number", "home": "self power", "height": "self", "new": "self", "books": "self",
        "checks": "self", "__eq__": "self other", "__len__": "self",
    },
    ("spans", "Span"): {
        "__init__": "self numbers", "add": "self number", "rank": "self", "holds": "self number", "nth": "self place",
        "order_of": "self number", "below": "self bound", "rows": "self", "rest": "self number",
        "made_of": "self number",
    },
    ("orders", "Order"): {
        "__init__": "self words", "word": "self index", "index_of": "self number", "led": "self house",
        "book_of": "self house number", "__len__": "self",
    },
    ("desk", "Desk"): {"__init__": "self", "say": "self row"},
    ("town", "Town"): {
        "__init__": "self", "turn": "self moment bar", "drop": "self moment", "entries": "self * upto=None",
        "bars": "self * upto=None", "house": "self * upto=None", "moves": "self number * since=None upto=None",
        "moved": "self moment", "comes": "self number book", "same": "self one other", "__len__": "self",
    },
}


def defined(body):
    """Tell the functions and classes that stand in a body, by their names."""
    return {node.name: node for node in body if isinstance(node, (ast.FunctionDef, ast.ClassDef))}


def file_body(name):
    with open(os.path.join(FOLDER, name + ".py"), encoding="utf-8") as held:
        return ast.parse(held.read()).body


class TestInterface(unittest.TestCase):
    def check(self, function, names, where):
        there = function.args
        told = [arg.arg for arg in there.args]
        if there.kwonlyargs:
            told.append("*")
        told += [f"{arg.arg}={ast.unparse(value)}" for arg, value in zip(there.kwonlyargs, there.kw_defaults)]
        self.assertEqual(told, names.split(), where)
        self.assertEqual((there.posonlyargs, there.vararg, there.kwarg), ([], None, None), where)

    def test_functions_stand_in_their_files(self):
        for name, functions in FUNCTIONS.items():
            there = defined(file_body(name))
            for function, names in functions.items():
                self.check(there[function], names, (name, function))

    def test_classes_have_their_methods_themselves(self):
        for (name, kind), methods in CLASSES.items():
            there = defined(defined(file_body(name))[kind].body)
            for method, names in methods.items():
                self.check(there[method], names, (name, kind, method))


if __name__ == "__main__":
    unittest.main()

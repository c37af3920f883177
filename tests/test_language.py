"""A look at the rules of LANGUAGE.md that are easily broken unseen."""

import ast
import builtins
import os
import unittest

FOLDER = os.path.join(os.path.dirname(os.path.dirname(os.path.abspath(__file__))), "firstbooks")

BUILTINS = (
    "len range enumerate zip min max sum abs sorted reversed int str bool list tuple dict set isinstance ord repr "
    "any all divmod Exception ValueError TypeError KeyError IndexError LookupError ZeroDivisionError "
    "ArithmeticError RuntimeError NotImplementedError"
).split()

METHODS = (
    "append clear copy count endswith extend find get index insert isalnum isalpha isdigit islower isspace isupper "
    "items join keys ljust lower lstrip partition pop remove replace reverse rfind rjust rpartition rsplit rstrip "
    "setdefault split splitlines startswith strip update upper values zfill bit_length"
).split()


def texts():
    for name in sorted(os.listdir(FOLDER)):
        if name != "__pycache__":
            with open(os.path.join(FOLDER, name), encoding="utf-8") as held:
                yield name, held.read()


def nodes(kind):
    for name, text in texts():
        for node in ast.walk(ast.parse(text)):
            if isinstance(node, kind):
                yield name, node


class TestLanguage(unittest.TestCase):
    def test_files_and_sizes(self):
        for name, text in texts():
            self.assertTrue(name.endswith(".py") and name == name.lower(), name)
            lines = text.split("\n")
            self.assertLessEqual(len(lines), 399, name)
            self.assertLessEqual(max(map(len, lines)), 120, name)
            self.assertTrue(all(sign == "\n" or " " <= sign <= "~" for sign in text), name)
        for name, node in nodes(ast.FunctionDef):
            self.assertLessEqual(node.end_lineno - node.lineno + 1, 40, (name, node.name))
            self.assertEqual(node.decorator_list, [], (name, node.name))

    def test_imports_are_of_the_package_and_without_a_ring(self):
        imports = {name: [] for name, _ in texts()}
        for name, node in nodes((ast.Import, ast.ImportFrom)):
            self.assertIsInstance(node, ast.ImportFrom, name)
            self.assertEqual((node.level, node.module.split(".")[0]), (0, "firstbooks"), name)
            self.assertTrue(all(alias.name != "*" and alias.asname is None for alias in node.names), name)
            imports[name].append(node.module.split(".")[1] + ".py")
        while imports:
            free = [name for name in imports if not any(other in imports for other in imports[name])]
            self.assertTrue(free, imports)
            imports = {name: imports[name] for name in imports if name not in free}

    def test_no_name_has_another_meaning(self):
        for name, text in texts():
            tree = ast.parse(text)
            bound = {alias.name for node in ast.walk(tree) if isinstance(node, ast.ImportFrom) for alias in node.names}
            bound |= {node.name for node in tree.body if isinstance(node, ast.ClassDef)}
            for node in ast.walk(tree):
                told = None
                if isinstance(node, ast.Name) and isinstance(node.ctx, ast.Store):
                    told = node.id
                elif isinstance(node, ast.arg):
                    told = node.arg
                self.assertFalse(told is not None and hasattr(builtins, told), (name, told))
                self.assertNotIn(told, bound, name)

    def test_builtins_and_methods(self):
        for name, node in nodes(ast.Name):
            if hasattr(builtins, node.id):
                self.assertIn(node.id, BUILTINS, name)
        own = {node.name for _, node in nodes(ast.FunctionDef)}
        for name, node in nodes(ast.Call):
            if isinstance(node.func, ast.Attribute) and node.func.attr not in own:
                self.assertIn(node.func.attr, METHODS, name)

    def test_no_floats_and_no_async(self):
        self.assertEqual([(name, node) for name, node in nodes((ast.Div, ast.Await, ast.AsyncFunctionDef))], [])
        for name, node in nodes(ast.Constant):
            self.assertNotIsInstance(node.value, (float, complex), name)

    def test_sets_are_kept_as_they_are_made(self):
        # A class has a method called add, so nothing is added to a stored set.
        for name, function in nodes(ast.FunctionDef):
            kept = set()
            for node in ast.walk(function):
                if isinstance(node, ast.Assign) and isinstance(node.value, (ast.Set, ast.SetComp, ast.Call)):
                    made = node.value.func if isinstance(node.value, ast.Call) else None
                    if made is None or (isinstance(made, ast.Name) and made.id == "set"):
                        kept |= {target.id for target in node.targets if isinstance(target, ast.Name)}
            for node in ast.walk(function):
                if isinstance(node, ast.Attribute) and isinstance(node.value, ast.Name):
                    self.assertNotIn(node.value.id, kept, (name, function.name))

    def test_lists_where_a_class_compares(self):
        for name, node in nodes(ast.Call):
            if isinstance(node.func, ast.Name) and node.func.id in ("any", "all", "min", "max", "sum", "sorted"):
                self.assertFalse(any(isinstance(arg, ast.GeneratorExp) for arg in node.args), (name, node.lineno))


if __name__ == "__main__":
    unittest.main()

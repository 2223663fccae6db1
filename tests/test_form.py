"""A part of the rules of form for the files of the package: those that are plain to look up."""

import ast
import builtins
import pathlib
import unittest

PACKAGE = pathlib.Path(__file__).resolve().parent.parent / "unnoted"
FILES = sorted(PACKAGE.rglob("*.py"))
LIBRARY = {"heapq", "math", "itertools", "collections"}
BUILTINS = set("""len range enumerate zip min max sum abs sorted reversed int str bool list tuple dict set frozenset
isinstance ord repr any all divmod pow iter next map super property staticmethod classmethod Exception ValueError
TypeError KeyError IndexError LookupError ZeroDivisionError ArithmeticError OverflowError RuntimeError
NotImplementedError StopIteration NotImplemented""".split())
INTERFACE = {
    "webs.py": "pieces bridges is_tree round_bounds",
    "logs.py": "ends ways orders faces met turns are_one_kind count_kinds count_of_kind all_ends",
    "arrangements.py": "Arrangement",
    "reach.py": "can_end log_ending",
    "splits.py": "splits bundles are_alike is_within count_alike alike_webs web_with",
    "classes.py": "count_classes classes",
    "nights.py": "telling_nights parting meetings web_by_meetings Nights",
    "rings.py": "ring_web ring_ends aheads count_ring_ends",
}
METHODS = {
    "Arrangement": "ends rounds repeated still after",
    "Nights": "nights known see has lacks busy undo count fits may must a_tree trees stretches",
}
# An interactive session, or a test of examples, may leave a last result under this name.
ALL_BUILTINS = set(dir(builtins)) - {"_"}


class FormTest(unittest.TestCase):
    def test_files(self):
        self.assertTrue(FILES)
        for path in PACKAGE.rglob("*"):
            self.assertTrue(path.is_dir() or path.suffix in (".py", ".pyc"), path)

    def test_characters_and_size(self):
        for path in FILES:
            text = path.read_bytes().decode("ascii")
            self.assertTrue(all(letter == "\n" or " " <= letter <= "~" for letter in text), path)
            self.assertLessEqual(len(text.splitlines()), 399, path)
            self.assertLessEqual(max([len(line) for line in text.splitlines()]), 120, path)

    def test_functions_are_small(self):
        for path in FILES:
            for node in ast.walk(ast.parse(path.read_text())):
                if isinstance(node, ast.FunctionDef):
                    self.assertLessEqual(node.end_lineno - node.lineno + 1, 40, (path, node.name))

    def test_imports(self):
        for path in FILES:
            for node in ast.walk(ast.parse(path.read_text())):
                self.assertNotIsInstance(node, ast.Import, path)
                if isinstance(node, ast.ImportFrom):
                    self.assertEqual(node.level, 0, path)
                    self.assertTrue(node.module.startswith("unnoted.") or node.module in LIBRARY, path)

    def test_builtins(self):
        for path in FILES:
            for node in ast.walk(ast.parse(path.read_text())):
                names = [node.id] if isinstance(node, ast.Name) else []
                names += [node.arg] if isinstance(node, ast.arg) else []
                for name in names:
                    self.assertTrue(name in BUILTINS or name not in ALL_BUILTINS, (path, name))
                    stored = isinstance(node, ast.arg) or not isinstance(node.ctx, ast.Load)
                    self.assertFalse(stored and name in ALL_BUILTINS, (path, name))

    def test_module_level(self):
        allowed = (ast.Expr, ast.ImportFrom, ast.FunctionDef, ast.ClassDef, ast.Assign)
        for path in FILES:
            for node in ast.parse(path.read_text()).body:
                self.assertIsInstance(node, allowed, path)

    def test_the_interface_is_defined_in_its_files(self):
        for name, listed in INTERFACE.items():
            body = ast.parse((PACKAGE / name).read_text()).body
            defined = [node.name for node in body if isinstance(node, (ast.FunctionDef, ast.ClassDef))]
            for thing in listed.split():
                self.assertIn(thing, defined, name)

    def test_the_methods_are_defined_in_their_classes(self):
        classes = [node for path in FILES for node in ast.parse(path.read_text()).body if isinstance(node, ast.ClassDef)]
        for name, listed in METHODS.items():
            body = [node.body for node in classes if node.name == name][0]
            defined = [node.name for node in body if isinstance(node, ast.FunctionDef)]
            for thing in listed.split() + ["__init__", "__len__"]:
                self.assertEqual(defined.count(thing), 1, (name, thing))

    def test_what_a_class_with_operators_bars(self):
        for path in FILES:
            for node in ast.walk(ast.parse(path.read_text())):
                if isinstance(node, ast.Call) and isinstance(node.func, ast.Name):
                    if node.func.id in ("any", "all", "min", "max", "sum", "sorted"):
                        self.assertFalse([one for one in node.args if isinstance(one, ast.GeneratorExp)], path)
                self.assertFalse(isinstance(node, ast.Attribute) and node.attr == "sort", path)
                if isinstance(node, ast.ImportFrom) and node.module == "itertools":
                    self.assertFalse({"product", "combinations", "permutations"} & {one.name for one in node.names})
                if isinstance(node, ast.ClassDef):
                    methods = [one.name for one in node.body if isinstance(one, ast.FunctionDef)]
                    self.assertTrue("__iter__" in methods or "__getitem__" not in methods, path)

    def test_operators_and_properties_change_no_attribute(self):
        may_change = ("__init__", "__imul__", "__call__")
        for path in FILES:
            for node in ast.walk(ast.parse(path.read_text())):
                if isinstance(node, ast.FunctionDef) and node.name not in may_change:
                    if node.name.startswith("__") or "property" in [ast.unparse(one) for one in node.decorator_list]:
                        stored = [one for one in ast.walk(node) if isinstance(one, ast.Attribute)
                                  and not isinstance(one.ctx, ast.Load)]
                        self.assertFalse(stored, (path, node.name))


if __name__ == "__main__":
    unittest.main()

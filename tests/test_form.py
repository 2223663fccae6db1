"""A part of the rules of form for the files of the package: those that are plain to look up."""

import ast
import builtins
import pathlib
import unittest

PACKAGE = pathlib.Path(__file__).resolve().parent.parent / "unnoted"
FILES = sorted(PACKAGE.rglob("*.py"))
LIBRARY = {"heapq", "math", "itertools", "collections"}
BUILTINS = set("""len range enumerate zip min max sum abs sorted reversed int str bool list tuple dict set frozenset
isinstance ord repr any all divmod pow iter next map super property staticmethod classmethod Exception ValueError
TypeError KeyError IndexError LookupError ZeroDivisionError ArithmeticError OverflowError RuntimeError
NotImplementedError StopIteration NotImplemented""".split())
# An interactive session, or a test of examples, may leave a last result under this name.
ALL_BUILTINS = set(dir(builtins)) - {"_"}


class FormTest(unittest.TestCase):
    def test_files(self):
        self.assertTrue(FILES)
        for path in PACKAGE.rglob("*"):
            self.assertTrue(path.is_dir() or path.suffix in (".py", ".pyc"), path)

    def test_characters_and_size(self):
        for path in FILES:
            text = path.read_bytes().decode("ascii")
            self.assertTrue(all(letter == "\n" or " " <= letter <= "~" for letter in text), path)
            self.assertLessEqual(len(text.splitlines()), 399, path)
            self.assertLessEqual(max([len(line) for line in text.splitlines()]), 120, path)

    def test_functions_are_small(self):
        for path in FILES:
            for node in ast.walk(ast.parse(path.read_text())):
                if isinstance(node, ast.FunctionDef):
                    self.assertLessEqual(node.end_lineno - node.lineno + 1, 40, (path, node.name))

    def test_imports(self):
        for path in FILES:
            for node in ast.walk(ast.parse(path.read_text())):
                self.assertNotIsInstance(node, ast.Import, path)
                if isinstance(node, ast.ImportFrom):
                    self.assertEqual(node.level, 0, path)
                    self.assertTrue(node.module.startswith("unnoted.") or node.module in LIBRARY, path)

    def test_builtins(self):
        for path in FILES:
            for node in ast.walk(ast.parse(path.read_text())):
                names = [node.id] if isinstance(node, ast.Name) else []
                names += [node.arg] if isinstance(node, ast.arg) else []
                for name in names:
                    self.assertTrue(name in BUILTINS or name not in ALL_BUILTINS, (path, name))
                    stored = isinstance(node, ast.arg) or not isinstance(node.ctx, ast.Load)
                    self.assertFalse(stored and name in ALL_BUILTINS, (path, name))

    def test_module_level(self):
        allowed = (ast.Expr, ast.ImportFrom, ast.FunctionDef, ast.ClassDef, ast.Assign)
        for path in FILES:
            for node in ast.parse(path.read_text()).body:
                self.assertIsInstance(node, allowed, path)


if __name__ == "__main__":
    unittest.main()

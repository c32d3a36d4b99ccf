"""The interface as it is told, and the rules for the package that a test can see."""

import ast
import importlib
import inspect
import pathlib
import re
import unittest

PACKAGE = pathlib.Path(__file__).resolve().parent.parent / "wholetongue"
FILES = sorted(PACKAGE.rglob("*.py"))

INTERFACE = (
    ("errors", "Fault", ["stage", "file", "place", "why"]),
    ("words", "words_of", ["text"]),
    ("tree", "tree_of", ["text"]),
    ("tree", "worth_tree", ["text"]),
)

BARRED = (
    "type", "typing", "enum", "Enum", "Generic", "Protocol", "ABC", "namedtuple", "NamedTuple",
    "dataclass", "overload", "contextmanager", "abstractmethod", "_wall",
)

BUILTINS = (
    "len range enumerate zip min max sum abs sorted reversed int str bool list tuple dict set "
    "isinstance ord repr any all divmod ValueError KeyError ZeroDivisionError"
).split()


def parsed(path):
    return ast.parse(path.read_text(encoding="utf-8"))


class InterfaceTest(unittest.TestCase):
    def test_all_stands_where_it_is_listed(self):
        for file, name, wanted in INTERFACE:
            module = importlib.import_module("wholetongue." + file)
            thing = getattr(module, name)
            self.assertEqual(thing.__module__, "wholetongue." + file)
            self.assertEqual(list(inspect.signature(thing).parameters), wanted)


class RulesTest(unittest.TestCase):
    def test_characters_and_sizes(self):
        for path in FILES:
            data = path.read_bytes()
            self.assertTrue(all(code == 10 or 32 <= code <= 126 for code in data), path)
            rows = data.decode("ascii").splitlines()
            self.assertLess(len(rows), 400, path)
            self.assertLessEqual(max(len(row) for row in rows), 120, path)

    def test_functions_are_short(self):
        for path in FILES:
            for node in ast.walk(parsed(path)):
                if isinstance(node, ast.FunctionDef):
                    self.assertLessEqual(node.end_lineno - node.lineno + 1, 40, (path, node.name))

    def test_the_folder_holds_modules_alone(self):
        for path in PACKAGE.rglob("*"):
            if "__pycache__" not in path.parts and path.is_file():
                self.assertTrue(re.fullmatch(r"[a-z_]+\.py", path.name), path)

    def test_imports_are_the_packages_own(self):
        for path in FILES:
            for node in ast.walk(parsed(path)):
                self.assertNotIsInstance(node, (ast.Import, ast.Global), path)
                if isinstance(node, ast.ImportFrom):
                    self.assertTrue(node.module.startswith("wholetongue."), path)
                    module = importlib.import_module(node.module)
                    for alias in node.names:
                        self.assertIsNone(alias.asname, path)
                        thing = getattr(module, alias.name)
                        self.assertEqual(getattr(thing, "__module__", node.module), node.module)

    def test_no_percent_and_no_float(self):
        for path in FILES:
            for node in ast.walk(parsed(path)):
                if isinstance(node, ast.Constant):
                    self.assertNotIsInstance(node.value, (float, complex), path)
                    self.assertNotIn("%", str(node.value), path)
                self.assertNotIsInstance(node, ast.Div, path)

    def test_barred_words(self):
        for path in FILES:
            words = re.findall(r"\w+", path.read_text(encoding="ascii"))
            self.assertEqual([word for word in words if word in BARRED], [], path)

    def test_calls_of_bare_names(self):
        for path in FILES:
            tree = parsed(path)
            known = set(BUILTINS)
            for node in ast.walk(tree):
                if isinstance(node, (ast.FunctionDef, ast.ClassDef)):
                    known.add(node.name)
                if isinstance(node, ast.FunctionDef):
                    known.update(one.arg for one in node.args.args)
                if isinstance(node, ast.ImportFrom):
                    known.update(alias.name for alias in node.names)
            for node in ast.walk(tree):
                if isinstance(node, ast.Call) and isinstance(node.func, ast.Name):
                    self.assertIn(node.func.id, known, path)


if __name__ == "__main__":
    unittest.main()

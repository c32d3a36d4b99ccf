"""The interface as it is told, and the rules for the package that a test can see."""

import ast
import builtins
import importlib
import inspect
import pathlib
import re
import unittest

PACKAGE = pathlib.Path(__file__).resolve().parent.parent / "wholetongue"
FILES = sorted(PACKAGE.rglob("*.py"))

INTERFACE = (
    ("errors", "Fault", ["stage", "file", "place", "why"]),
    ("words", "words_of", ["text"]),
    ("tree", "tree_of", ["text"]),
    ("tree", "worth_tree", ["text"]),
    ("names", "names_of", ["house", "file"]),
    ("names", "uses_of", ["house", "file"]),
    ("worths", "kinds_of", ["house", "file"]),
    ("worths", "face_of", ["house", "file"]),
    ("worths", "worths_of", ["house", "file"]),
    ("middle", "middle_of", ["house", "file"]),
    ("writing", "text_of", ["tree"]),
    ("lean", "lean_of", ["one"]),
    ("renaming", "places_of", ["house", "file", "place"]),
    ("renaming", "renamed", ["house", "file", "place", "new"]),
    ("idle", "idle_of", ["house", "file"]),
    ("differing", "differing", ["house", "other"]),
    ("differing", "otherwise_by", ["house", "other"]),
    ("machine", "machine_of", ["one"]),
    ("link", "image_of", ["house", "*lean"]),
    ("run", "run", ["image", "file", "name", "*most"]),
    ("run", "Runner", ["image", "file", "name", "*most"]),
    ("look", "Looker", ["image", "file", "name", "*most"]),
    ("counts", "traced", ["image", "file", "name", "*most"]),
    ("counts", "counted", ["image", "file", "name", "*most"]),
    ("counts", "called", ["image", "file", "name", "*most"]),
    ("counts", "judged", ["image", "file", "name", "told", "*most"]),
    ("papers", "papers", ["house", "*lean"]),
    ("papers", "joined", ["house", "image", "papers", "*lean"]),
    ("house", "House", []),
)

DEFAULTS = {"most": 2000, "lean": False, "when": "", "at_depth": 0}

CLASSES = {
    ("run", "Runner"): {"next": [], "where": [], "said": [], "outcome": []},
    ("look", "Looker"): {
        "stop": ["file", "row", "*when"], "unstop": ["file", "row"], "back": [], "stops": [], "said": [], "frames": [],
        "seen": ["depth"], "lasting": [], "step": [], "go": [], "over": [], "out": [], "back_go": [], "where": [],
        "outcome": [], "ask": ["text", "depth"], "watch": ["text", "*at_depth"],
    },
    ("house", "House"): {
        "lay": ["file", "text"], "edit": ["file", "row", "many", "rows"], "drop": ["file"], "text": ["file"],
        "all_files": [], "make": [], "faces": [], "image": [],
    },
}

BARRED = (
    "type", "typing", "enum", "Enum", "Generic", "Protocol", "ABC", "namedtuple", "NamedTuple",
    "dataclass", "overload", "contextmanager", "abstractmethod", "_wall",
)

UNUSED_NAMES = (
    "register", "mro", "elements", "open", "input", "law", "version_info", "exit", "dir", "id",
    "vars", "gc", "os", "sys",
)

METHODS = (
    "append clear copy count endswith extend find get index insert isalnum isalpha isdigit islower isspace isupper "
    "items join keys ljust lower lstrip partition pop remove replace reverse rfind rjust rpartition rsplit rstrip "
    "setdefault split splitlines startswith strip update upper values zfill bit_length"
).split()

BUILTINS = (
    "len range enumerate zip min max sum abs sorted reversed int str bool list tuple dict set "
    "isinstance ord repr any all divmod ValueError KeyError ZeroDivisionError"
).split()


def parsed(path):
    return ast.parse(path.read_text(encoding="utf-8"))


class InterfaceTest(unittest.TestCase):
    def test_all_stands_where_it_is_listed(self):
        for file, name, wanted in INTERFACE:
            module = importlib.import_module("wholetongue." + file)
            thing = getattr(module, name)
            self.assertEqual(thing.__module__, "wholetongue." + file)
            self.assertEqual(self.handed(thing), wanted)

    def test_methods_stand_in_their_own_class(self):
        for (file, name), methods in CLASSES.items():
            made = getattr(importlib.import_module("wholetongue." + file), name)
            for method, wanted in methods.items():
                self.assertEqual(self.handed(vars(made)[method])[1:], wanted, (name, method))

    def handed(self, thing):
        """The names of what is handed in, with a star ahead of those that are handed in by name."""
        found = []
        for one in inspect.signature(thing).parameters.values():
            by_name = one.kind is one.KEYWORD_ONLY
            found.append("*" * by_name + one.name)
            if by_name:
                self.assertEqual(one.default, DEFAULTS[one.name])
            else:
                self.assertIs(one.default, one.empty)
        return found

    def test_counts_by_name(self):
        self.assertEqual(importlib.import_module("wholetongue.run").ROWS, 2000)


class RulesTest(unittest.TestCase):
    def test_characters_and_sizes(self):
        for path in FILES:
            data = path.read_bytes()
            self.assertTrue(all(code == 10 or 32 <= code <= 126 for code in data), path)
            rows = data.decode("ascii").splitlines()
            self.assertLess(len(rows), 400, path)
            self.assertLessEqual(max(len(row) for row in rows), 120, path)

    def test_functions_are_short(self):
        for path in FILES:
            for node in ast.walk(parsed(path)):
                if isinstance(node, ast.FunctionDef):
                    self.assertLessEqual(node.end_lineno - node.lineno + 1, 40, (path, node.name))

    def test_the_folder_holds_modules_alone(self):
        for path in PACKAGE.rglob("*"):
            if "__pycache__" not in path.parts and path.is_file():
                self.assertTrue(re.fullmatch(r"[a-z_]+\.py", path.name), path)

    def test_imports_are_the_packages_own(self):
        for path in FILES:
            for node in ast.walk(parsed(path)):
                self.assertNotIsInstance(node, (ast.Import, ast.Global), path)
                if isinstance(node, ast.ImportFrom):
                    self.assertTrue(node.module.startswith("wholetongue."), path)
                    module = importlib.import_module(node.module)
                    for alias in node.names:
                        self.assertIsNone(alias.asname, path)
                        thing = getattr(module, alias.name)
                        self.assertEqual(getattr(thing, "__module__", node.module), node.module)

    def test_no_percent_and_no_float(self):
        for path in FILES:
            for node in ast.walk(parsed(path)):
                if isinstance(node, ast.Constant):
                    self.assertNotIsInstance(node.value, (float, complex), path)
                    self.assertNotIn("%", str(node.value), path)
                self.assertNotIsInstance(node, ast.Div, path)

    def test_barred_words(self):
        for path in FILES:
            words = re.findall(r"\w+", path.read_text(encoding="ascii"))
            self.assertEqual([word for word in words if word in BARRED], [], path)

    def test_calls_of_bare_names(self):
        for path in FILES:
            tree = parsed(path)
            known = set(BUILTINS)
            for node in ast.walk(tree):
                if isinstance(node, (ast.FunctionDef, ast.ClassDef)):
                    known.add(node.name)
                if isinstance(node, ast.FunctionDef):
                    known.update(one.arg for one in node.args.args + node.args.kwonlyargs)
                if isinstance(node, ast.ImportFrom):
                    known.update(alias.name for alias in node.names)
            for node in ast.walk(tree):
                if isinstance(node, ast.Call) and isinstance(node.func, ast.Name):
                    self.assertIn(node.func.id, known, path)

    def test_names_are_free(self):
        for path in FILES:
            tree = parsed(path)
            bound = top_names(tree)
            self.assertEqual(len(set(bound)), len(bound), path)
            local = [name for name in names_assigned(tree) if name not in bound]
            for name in bound + local:
                self.assertFalse(hasattr(builtins, name), (path, name))
                self.assertNotIn(name, UNUSED_NAMES, path)
            imported = [alias.name for node in tree.body if isinstance(node, ast.ImportFrom) for alias in node.names]
            classes = [node.name for node in tree.body if isinstance(node, ast.ClassDef)]
            taken = set(imported + classes)
            within = [name for node in tree.body if not isinstance(node, ast.ImportFrom) for name in names_within(node)]
            self.assertEqual([name for name in within if name in taken], [], path)

    def test_statements_and_values(self):
        barred = (
            ast.Global, ast.AsyncFunctionDef, ast.Yield, ast.YieldFrom, ast.Await, ast.Set, ast.SetComp, ast.JoinedStr,
            ast.With, ast.Lambda, ast.NamedExpr, ast.GeneratorExp, ast.AnnAssign, ast.Match,
        )
        for path in FILES:
            for node in ast.walk(parsed(path)):
                if isinstance(node, ast.Try):
                    # Own errors alone are caught.
                    self.assertEqual([handler.type.id for handler in node.handlers], ["Fault"], path)
                else:
                    self.assertNotIsInstance(node, barred, path)
                if isinstance(node, (ast.FunctionDef, ast.ClassDef)):
                    self.assertEqual(node.decorator_list, [], path)
                if isinstance(node, ast.FunctionDef) and node.name.startswith("__"):
                    self.assertEqual(node.name, "__init__", path)

    def test_module_level_is_plain(self):
        for path in FILES:
            for node in parsed(path).body:
                if isinstance(node, ast.Assign):
                    self.assertEqual(len(node.targets), 1, path)
                    self.assertIsNotNone(ast.literal_eval(node.value), path)
                elif isinstance(node, ast.Expr):
                    self.assertIsInstance(node.value.value, str, path)
                else:
                    self.assertIsInstance(node, (ast.ImportFrom, ast.FunctionDef, ast.ClassDef), path)

    def test_methods(self):
        own = {
            node.name for path in FILES for node in ast.walk(parsed(path)) if isinstance(node, ast.FunctionDef)
        }
        for path in FILES:
            for node in ast.walk(parsed(path)):
                if isinstance(node, ast.Call) and isinstance(node.func, ast.Attribute):
                    self.assertTrue(node.func.attr in METHODS or node.func.attr in own, (path, node.func.attr))

    def test_no_files_import_each_other(self):
        imports = {
            path.stem: [
                node.module.split(".")[1] for node in parsed(path).body if isinstance(node, ast.ImportFrom)
            ] for path in FILES
        }
        left = dict(imports)
        while left:
            free = [file for file in left if not set(left[file]) & set(left)]
            self.assertNotEqual(free, [], left)
            for file in free:
                del left[file]

    def test_what_a_loop_goes_over_is_not_changed_in_it(self):
        for path in FILES:
            for node in ast.walk(parsed(path)):
                if isinstance(node, ast.For):
                    over = {
                        ast.unparse(part) for part in ast.walk(node.iter)
                        if isinstance(part, (ast.Name, ast.Attribute))
                    }
                    for inner in [part for row in node.body for part in ast.walk(row)]:
                        if isinstance(inner, ast.Call) and isinstance(inner.func, ast.Attribute):
                            if inner.func.attr in ("append", "extend", "remove", "pop", "insert", "clear"):
                                self.assertNotIn(ast.unparse(inner.func.value), over, path)


def top_names(tree):
    """All names that a file binds at its top."""
    names = []
    for node in tree.body:
        if isinstance(node, ast.ImportFrom):
            names += [alias.name for alias in node.names]
        elif isinstance(node, (ast.FunctionDef, ast.ClassDef)):
            names.append(node.name)
        elif isinstance(node, ast.Assign):
            names += [target.id for target in node.targets]
    return names


def names_assigned(tree):
    return [name for node in tree.body for name in names_within(node)]


def names_within(node):
    """All parameters and names that are assigned within something, comprehensions' too."""
    names = []
    for inner in ast.walk(node):
        if isinstance(inner, ast.Name) and isinstance(inner.ctx, ast.Store):
            names.append(inner.id)
        if isinstance(inner, ast.arg):
            names.append(inner.arg)
        if isinstance(inner, ast.ExceptHandler) and inner.name:
            names.append(inner.name)
    return names


if __name__ == "__main__":
    unittest.main()

"""The rules of LANGUAGE.md that can be seen from outside, of each file of the package."""

import ast
import builtins
import pathlib
import re
import unittest
import warnings

FOLDER = pathlib.Path(__file__).resolve().parent.parent / "dunebooks"
FILES = sorted(FOLDER.rglob("*.py"))
BARRED = ["type", "typing", "typing_extensions", "enum", "Enum", "IntEnum", "StrEnum", "Flag", "IntFlag", "Generic",
          "Protocol", "ABC", "ABCMeta", "namedtuple", "NamedTuple", "TypedDict", "TYPE_CHECKING", "abstractmethod"]
BARRED_INSIDE = ["dataclass", "overload", "contextmanager"]
DUNDERS = ["__init__", "__eq__", "__repr__", "__str__", "__len__"]
BUILTINS = ["len", "range", "enumerate", "zip", "min", "max", "sum", "abs", "sorted", "reversed", "int", "str", "bool",
            "list", "tuple", "dict", "set", "isinstance", "ord", "repr", "any", "all", "divmod"]
OWN_ERRORS = ["Exception", "ValueError", "TypeError", "KeyError", "IndexError", "LookupError", "ZeroDivisionError",
              "ArithmeticError", "OverflowError", "RuntimeError", "NotImplementedError", "NotImplemented"]
METHODS = """append clear copy count endswith extend find get index insert isalnum isalpha isdigit islower isspace
isupper items join keys ljust lower lstrip partition pop remove replace reverse rfind rjust rpartition rsplit rstrip
setdefault split splitlines startswith strip update upper values zfill bit_length __init__""".split()


def bound_in(tree):
    """Each name that is assigned, handed in or defined anywhere in a tree, imports apart."""
    told = [node.id for node in ast.walk(tree) if isinstance(node, ast.Name) and isinstance(node.ctx, ast.Store)]
    told += [node.arg for node in ast.walk(tree) if isinstance(node, ast.arg)]
    return told + [node.name for node in ast.walk(tree) if isinstance(node, (ast.FunctionDef, ast.ClassDef))]


def imported_in(tree):
    """Each name that a file imports."""
    rows = [node.names for node in ast.walk(tree) if isinstance(node, ast.ImportFrom)]
    return [alias.asname or alias.name for names in rows for alias in names]


def each_node(kind):
    return [(path, node) for path in FILES for node in ast.walk(ast.parse(path.read_text())) if isinstance(node, kind)]


class Form(unittest.TestCase):
    def test_the_folder_has_python_files_only(self):
        self.assertIn(FOLDER / "__init__.py", FILES)
        for path in FOLDER.rglob("*"):
            if "__pycache__" not in path.parts:
                self.assertIn(path, FILES)
                self.assertRegex(path.name, r"^(__init__|[a-z][a-z0-9_]*)\.py$")
                self.assertFalse(path.name.startswith("test"))

    def test_signs_and_sizes(self):
        for path in FILES:
            text = path.read_text()
            self.assertRegex(text, r"\A[ -~\n]*\Z", path)
            self.assertLessEqual(len(text.split("\n")), 400, path)
            self.assertLessEqual(max(len(row) for row in text.split("\n")), 120, path)
        for path, node in each_node(ast.FunctionDef):
            self.assertLessEqual(node.end_lineno - node.lineno + 1, 40, (path, node.name))

    def test_barred_words(self):
        for path in FILES:
            text = path.read_text()
            self.assertEqual([word for word in re.findall(r"\w+", text) if word in BARRED], [], path)
            self.assertEqual([word for word in BARRED_INSIDE if word in text], [], path)

    def test_imports(self):
        self.assertEqual(each_node(ast.Import), [])
        for path, node in each_node(ast.ImportFrom):
            self.assertRegex(node.module, r"^dunebooks\.\w+$", path)
            self.assertEqual(node.level, 0, path)
            self.assertNotIn("*", [name.name for name in node.names], path)

    def test_names(self):
        for path, node in each_node((ast.FunctionDef, ast.ClassDef)):
            self.assertTrue(not node.name.startswith("_") or node.name in DUNDERS, (path, node.name))
        for path, node in each_node(ast.Name):
            self.assertFalse(node.id.startswith("_"), (path, node.id))
            if isinstance(node.ctx, ast.Store):
                self.assertNotIn(node.id, BUILTINS, path)
        for path, node in each_node(ast.arg):
            self.assertNotIn(node.arg, BUILTINS + ["type", "id", "hash", "next", "map", "open", "input"], path)

    def test_barred_forms(self):
        # A class with __eq__ bars generator expressions in any, all and the like, so none is used at all.
        barred = (ast.Global, ast.AsyncFunctionDef, ast.Await, ast.GeneratorExp, ast.Div)
        self.assertEqual(each_node(barred), [])
        for path, node in each_node(ast.Constant):
            self.assertNotIsInstance(node.value, (float, complex), path)
            self.assertFalse(isinstance(node.value, str) and chr(37) in node.value, path)

    def test_is_only_with_none_true_and_false(self):
        for path, node in each_node(ast.Compare):
            for sign, right in zip(node.ops, node.comparators):
                if isinstance(sign, (ast.Is, ast.IsNot)):
                    self.assertIn(getattr(right, "value", 0), (None, True, False), path)

    def test_no_other_builtins(self):
        for path in FILES:
            tree = ast.parse(path.read_text())
            known = set(bound_in(tree) + imported_in(tree) + BUILTINS + OWN_ERRORS)
            used = {node.id for node in ast.walk(tree) if isinstance(node, ast.Name)}
            self.assertEqual(used - known, set(), path)

    def test_nothing_gets_the_name_of_an_import_or_a_builtin(self):
        for path in FILES:
            tree = ast.parse(path.read_text())
            imported = imported_in(tree)
            self.assertEqual(len(imported), len(set(imported)), path)
            self.assertEqual(set(bound_in(tree)) & set(imported + dir(builtins)) - set(DUNDERS), set(), path)

    def test_each_name_of_a_module_is_bound_once(self):
        for path in FILES:
            tree = ast.parse(path.read_text())
            top = [node.name for node in tree.body if isinstance(node, (ast.FunctionDef, ast.ClassDef))]
            top += [name.id for node in tree.body if isinstance(node, ast.Assign) for name in node.targets]
            self.assertEqual(len(top + imported_in(tree)), len(set(top + imported_in(tree))), path)

    def test_each_import_names_the_file_that_defines_the_name(self):
        defined = {f"dunebooks.{path.stem}": bound_in(ast.parse(path.read_text())) for path in FILES}
        for path, node in each_node(ast.ImportFrom):
            for alias in node.names:
                self.assertIn(alias.name, defined[node.module], path)

    def test_no_two_files_import_each_other(self):
        ahead = {path.stem: set() for path in FILES}
        for path, node in each_node(ast.ImportFrom):
            ahead[path.stem].add(node.module.split(".")[1])
        while ahead:
            free = [stem for stem, needed in ahead.items() if not needed & set(ahead)]
            self.assertNotEqual(free, [], ahead)
            ahead = {stem: needed for stem, needed in ahead.items() if stem not in free}

    def test_methods(self):
        own = [node.name for path, node in each_node(ast.FunctionDef)]
        for path, node in each_node(ast.Call):
            if isinstance(node.func, ast.Attribute):
                self.assertIn(node.func.attr, METHODS + own, path)

    def test_powers_and_raises(self):
        for path, node in each_node(ast.BinOp):
            if isinstance(node.op, ast.Pow):
                self.assertIn(getattr(node.right, "value", None), range(65), path)
        for path, node in each_node(ast.Raise):
            self.assertIsInstance(node.exc, (ast.Call, None.__class__), path)

    def test_python_gives_no_warning(self):
        with warnings.catch_warnings():
            warnings.simplefilter("error")
            for path in FILES:
                compile(path.read_text(), str(path), "exec")


if __name__ == "__main__":
    unittest.main()

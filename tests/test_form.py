"""The rules of LANGUAGE.md that can be seen from outside, of each file of the package."""

import ast
import pathlib
import re
import unittest
import warnings

FOLDER = pathlib.Path(__file__).resolve().parent.parent / "dunebooks"
FILES = sorted(FOLDER.rglob("*.py"))
BARRED = ["type", "typing", "typing_extensions", "enum", "Enum", "IntEnum", "StrEnum", "Flag", "IntFlag", "Generic",
          "Protocol", "ABC", "ABCMeta", "namedtuple", "NamedTuple", "TypedDict", "TYPE_CHECKING", "abstractmethod"]
BARRED_INSIDE = ["dataclass", "overload", "contextmanager"]
DUNDERS = ["__init__", "__eq__", "__repr__", "__str__", "__len__"]
BUILTINS = ["len", "range", "enumerate", "zip", "min", "max", "sum", "abs", "sorted", "reversed", "int", "str", "bool",
            "list", "tuple", "dict", "set", "isinstance", "ord", "repr", "any", "all", "divmod"]


def each_node(kind):
    return [(path, node) for path in FILES for node in ast.walk(ast.parse(path.read_text())) if isinstance(node, kind)]


class Form(unittest.TestCase):
    def test_the_folder_has_python_files_only(self):
        self.assertIn(FOLDER / "__init__.py", FILES)
        for path in FOLDER.rglob("*"):
            if "__pycache__" not in path.parts:
                self.assertIn(path, FILES)
                self.assertRegex(path.name, r"^(__init__|[a-z][a-z0-9_]*)\.py$")
                self.assertFalse(path.name.startswith("test"))

    def test_signs_and_sizes(self):
        for path in FILES:
            text = path.read_text()
            self.assertRegex(text, r"\A[ -~\n]*\Z", path)
            self.assertLessEqual(len(text.split("\n")), 400, path)
            self.assertLessEqual(max(len(row) for row in text.split("\n")), 120, path)
        for path, node in each_node(ast.FunctionDef):
            self.assertLessEqual(node.end_lineno - node.lineno + 1, 40, (path, node.name))

    def test_barred_words(self):
        for path in FILES:
            text = path.read_text()
            self.assertEqual([word for word in re.findall(r"\w+", text) if word in BARRED], [], path)
            self.assertEqual([word for word in BARRED_INSIDE if word in text], [], path)

    def test_imports(self):
        self.assertEqual(each_node(ast.Import), [])
        for path, node in each_node(ast.ImportFrom):
            self.assertRegex(node.module, r"^dunebooks\.\w+$", path)
            self.assertEqual(node.level, 0, path)
            self.assertNotIn("*", [name.name for name in node.names], path)

    def test_names(self):
        for path, node in each_node((ast.FunctionDef, ast.ClassDef)):
            self.assertTrue(not node.name.startswith("_") or node.name in DUNDERS, (path, node.name))
        for path, node in each_node(ast.Name):
            self.assertFalse(node.id.startswith("_"), (path, node.id))
            if isinstance(node.ctx, ast.Store):
                self.assertNotIn(node.id, BUILTINS, path)
        for path, node in each_node(ast.arg):
            self.assertNotIn(node.arg, BUILTINS + ["type", "id", "hash", "next", "map", "open", "input"], path)

    def test_barred_forms(self):
        # A class with __eq__ bars generator expressions in any, all and the like, so none is used at all.
        barred = (ast.Global, ast.AsyncFunctionDef, ast.Await, ast.GeneratorExp, ast.Div)
        self.assertEqual(each_node(barred), [])
        for path, node in each_node(ast.Constant):
            self.assertNotIsInstance(node.value, (float, complex), path)
            self.assertFalse(isinstance(node.value, str) and chr(37) in node.value, path)

    def test_is_only_with_none_true_and_false(self):
        for path, node in each_node(ast.Compare):
            for sign, right in zip(node.ops, node.comparators):
                if isinstance(sign, (ast.Is, ast.IsNot)):
                    self.assertIn(getattr(right, "value", 0), (None, True, False), path)

    def test_python_gives_no_warning(self):
        with warnings.catch_warnings():
            warnings.simplefilter("error")
            for path in FILES:
                compile(path.read_text(), str(path), "exec")


if __name__ == "__main__":
    unittest.main()

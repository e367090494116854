"""The rules of LANGUAGE.md that can be seen from outside, of each file of the package."""

import ast
import builtins
import pathlib
import re
import unittest
import warnings

FOLDER = pathlib.Path(__file__).resolve().parent.parent / "dunebooks"
FILES = sorted(FOLDER.rglob("*.py"))
BARRED = ["type", "typing", "typing_extensions", "enum", "Enum", "IntEnum", "StrEnum", "Flag", "IntFlag", "Generic",
          "Protocol", "ABC", "ABCMeta", "namedtuple", "NamedTuple", "TypedDict", "TYPE_CHECKING", "abstractmethod"]
BARRED_INSIDE = ["dataclass", "overload", "contextmanager"]
DUNDERS = ["__init__", "__eq__", "__repr__", "__str__", "__len__"]
BUILTINS = ["len", "range", "enumerate", "zip", "min", "max", "sum", "abs", "sorted", "reversed", "int", "str", "bool",
            "list", "tuple", "dict", "set", "isinstance", "ord", "repr", "any", "all", "divmod"]
OWN_ERRORS = ["Exception", "ValueError", "TypeError", "KeyError", "IndexError", "LookupError", "ZeroDivisionError",
              "ArithmeticError", "OverflowError", "RuntimeError", "NotImplementedError", "NotImplemented"]
METHODS = """append clear copy count endswith extend find get index insert isalnum isalpha isdigit islower isspace
isupper items join keys ljust lower lstrip partition pop remove replace reverse rfind rjust rpartition rsplit rstrip
setdefault split splitlines startswith strip update upper values zfill bit_length __init__""".split()


def bound_in(tree):
    """Each name that is assigned, handed in or defined anywhere in a tree, imports apart."""
    told = [node.id for node in ast.walk(tree) if isinstance(node, ast.Name) and isinstance(node.ctx, ast.Store)]
    told += [node.arg for node in ast.walk(tree) if isinstance(node, ast.arg)]
    return told + [node.name for node in ast.walk(tree) if isinstance(node, (ast.FunctionDef, ast.ClassDef))]


def imported_in(tree):
    """Each name that a file imports."""
    rows = [node.names for node in ast.walk(tree) if isinstance(node, ast.ImportFrom)]
    return [alias.asname or alias.name for names in rows for alias in names]


def each_node(kind):
    return [(path, node) for path in FILES for node in ast.walk(ast.parse(path.read_text())) if isinstance(node, kind)]


class Form(unittest.TestCase):
    def test_the_folder_has_python_files_only(self):
        self.assertIn(FOLDER / "__init__.py", FILES)
        for path in FOLDER.rglob("*"):
            if "__pycache__" not in path.parts:
                self.assertIn(path, FILES)
                self.assertRegex(path.name, r"^(__init__|[a-z][a-z0-9_]*)\.py$")
                self.assertFalse(path.name.startswith("test"))

    def test_signs_and_sizes(self):
        for path in FILES:
            text = path.read_text()
            self.assertRegex(text, r"\A[ -~\n]*\Z", path)
            self.assertLessEqual(len(text.split("\n")), 400, path)
            self.assertLessEqual(max(len(row) for row in text.split("\n")), 120, path)
        for path, node in each_node(ast.FunctionDef):
            self.assertLessEqual(node.end_lineno - node.lineno + 1, 40, (path, node.name))

    def test_barred_words(self):
        for path in FILES:
            text = path.read_text()
            self.assertEqual([word for word in re.findall(r"\w+", text) if word in BARRED], [], path)
            self.assertEqual([word for word in BARRED_INSIDE if word in text], [], path)

    def test_imports(self):
        self.assertEqual(each_node(ast.Import), [])
        for path, node in each_node(ast.ImportFrom):
            self.assertRegex(node.module, r"^dunebooks\.\w+$", path)
            self.assertEqual(node.level, 0, path)
            self.assertNotIn("*", [name.name for name in node.names], path)

    def test_names(self):
        for path, node in each_node((ast.FunctionDef, ast.ClassDef)):
            self.assertTrue(not node.name.startswith("_") or node.name in DUNDERS, (path, node.name))
        for path, node in each_node(ast.Name):
            self.assertFalse(node.id.startswith("_"), (path, node.id))
            if isinstance(node.ctx, ast.Store):
                self.assertNotIn(node.id, BUILTINS, path)
        for path, node in each_node(ast.arg):
            self.assertNotIn(node.arg, BUILTINS + ["type", "id", "hash", "next", "map", "open", "input"], path)

    def test_barred_forms(self):
        # A class with __eq__ bars generator expressions in any, all and the like, so none is used at all.
        barred = (ast.Global, ast.AsyncFunctionDef, ast.Await, ast.GeneratorExp, ast.Div)
        self.assertEqual(each_node(barred), [])
        for path, node in each_node(ast.Constant):
            self.assertNotIsInstance(node.value, (float, complex), path)
            self.assertFalse(isinstance(node.value, str) and chr(37) in node.value, path)

    def test_is_only_with_none_true_and_false(self):
        for path, node in each_node(ast.Compare):
            for sign, right in zip(node.ops, node.comparators):
                if isinstance(sign, (ast.Is, ast.IsNot)):
                    self.assertIn(getattr(right, "value", 0), (None, True, False), path)

    def test_no_other_builtins(self):
        for path in FILES:
            tree = ast.parse(path.read_text())
            known = set(bound_in(tree) + imported_in(tree) + BUILTINS + OWN_ERRORS)
            used = {node.id for node in ast.walk(tree) if isinstance(node, ast.Name)}
            self.assertEqual(used - known, set(), path)

    def test_nothing_gets_the_name_of_an_import_or_a_builtin(self):
        for path in FILES:
            tree = ast.parse(path.read_text())
            imported = imported_in(tree)
            self.assertEqual(len(imported), len(set(imported)), path)
            self.assertEqual(set(bound_in(tree)) & set(imported + dir(builtins)) - set(DUNDERS), set(), path)

    def test_each_name_of_a_module_is_bound_once(self):
        for path in FILES:
            tree = ast.parse(path.read_text())
            top = [node.name for node in tree.body if isinstance(node, (ast.FunctionDef, ast.ClassDef))]
            top += [name.id for node in tree.body if isinstance(node, ast.Assign) for name in node.targets]
            self.assertEqual(len(top + imported_in(tree)), len(set(top + imported_in(tree))), path)

    def test_each_import_names_the_file_that_defines_the_name(self):
        defined = {f"dunebooks.{path.stem}": bound_in(ast.parse(path.read_text())) for path in FILES}
        for path, node in each_node(ast.ImportFrom):
            for alias in node.names:
                self.assertIn(alias.name, defined[node.module], path)

    def test_no_two_files_import_each_other(self):
        ahead = {path.stem: set() for path in FILES}
        for path, node in each_node(ast.ImportFrom):
            ahead[path.stem].add(node.module.split(".")[1])
        while ahead:
            free = [stem for stem, needed in ahead.items() if not needed & set(ahead)]
            self.assertNotEqual(free, [], ahead)
            ahead = {stem: needed for stem, needed in ahead.items() if stem not in free}

    def test_methods(self):
        own = [node.name for path, node in each_node(ast.FunctionDef)]
        for path, node in each_node(ast.Call):
            if isinstance(node.func, ast.Attribute):
                self.assertIn(node.func.attr, METHODS + own, path)

    def test_powers_and_raises(self):
        for path, node in each_node(ast.BinOp):
            if isinstance(node.op, ast.Pow):
                self.assertIn(getattr(node.right, "value", None), range(65), path)
        for path, node in each_node(ast.Raise):
            self.assertIsInstance(node.exc, (ast.Call, None.__class__), path)

    def test_no_name_is_a_method_here_and_an_attribute_there(self):
        classes = each_node(ast.ClassDef)
        methods = {node.name for path, home in classes for node in home.body if isinstance(node, ast.FunctionDef)}
        given = {node.attr for path, node in each_node(ast.Attribute) if isinstance(node.ctx, ast.Store)}
        read = {node.attr for path, node in each_node(ast.Attribute)}
        self.assertIn("blow", methods)
        self.assertEqual(methods & given, set())
        self.assertEqual(given & set(METHODS), set())
        self.assertEqual(read - given - methods - set(METHODS), set())
        self.assertEqual((methods - {"__init__"}) & set(METHODS), set())

    def test_classes(self):
        for path, node in each_node(ast.ClassDef):
            self.assertEqual(node.decorator_list, [], path)
            names = [part.name for part in node.body if isinstance(part, ast.FunctionDef)]
            self.assertEqual(len(names), len(set(names)), path)
            self.assertEqual([name for name in names if name.startswith("_") and name not in DUNDERS], [], path)
        for path, node in each_node(ast.FunctionDef):
            self.assertEqual(node.decorator_list, [], path)
            if node.name in ("__eq__", "__len__", "__repr__"):
                self.assertEqual([type(part) for part in node.body], [ast.Return], path)

    def test_sets_stand_in_sorted_or_len_or_behind_in(self):
        for path in FILES:
            tree = ast.parse(path.read_text())
            good = [node.args[0] for node in ast.walk(tree) if isinstance(node, ast.Call) and node.args
                    and getattr(node.func, "id", "") in ("sorted", "len") and node.keywords == []]
            good += [node.comparators[0] for node in ast.walk(tree) if isinstance(node, ast.Compare)
                     and isinstance(node.ops[0], (ast.In, ast.NotIn))]
            for node in ast.walk(tree):
                is_set = isinstance(node, ast.Call) and getattr(node.func, "id", "") == "set"
                if isinstance(node, (ast.Set, ast.SetComp)) or is_set:
                    self.assertIn(node, good, path)

    def test_what_is_iterated_at_once(self):
        lazy = ("zip", "enumerate", "reversed", "range")
        for path in FILES:
            tree = ast.parse(path.read_text())
            good = [node.iter for node in ast.walk(tree) if isinstance(node, (ast.For, ast.comprehension))]
            good += [node.args[0] for node in ast.walk(tree) if isinstance(node, ast.Call) and node.args
                     and getattr(node.func, "id", "") in ("list", "tuple", "sorted", "sum", "any", "all")]
            # reversed(range(k)) is allowed, too.
            good += [node.args[0] for node in ast.walk(tree) if isinstance(node, ast.Call)
                     and getattr(node.func, "id", "") == "reversed" and isinstance(node.args[0], ast.Call)
                     and getattr(node.args[0].func, "id", "") == "range"]
            for node in ast.walk(tree):
                if isinstance(node, ast.Call) and getattr(node.func, "id", "") in lazy:
                    self.assertIn(node, good, path)
                if isinstance(node, ast.Attribute):
                    self.assertNotIn(node.attr, ("sort", "items", "keys", "values"), path)

    def test_only_own_errors_are_caught(self):
        own = [node.name for path, node in each_node(ast.ClassDef) if path.stem == "errors"]
        for path, node in each_node(ast.ExceptHandler):
            self.assertIn(getattr(node.type, "id", None), own, path)
        for path, node in each_node(ast.Try):
            for part in node.finalbody:
                self.assertIsInstance(part, ast.Expr, path)
                self.assertEqual((part.value.func.attr, len(part.value.args)), ("append", 1), path)
                inner = [type(each) for each in ast.walk(part.value.args[0])]
                self.assertTrue(set(inner) <= {ast.Tuple, ast.Constant, ast.Name, ast.Load}, path)

    def test_module_level(self):
        allowed = (ast.ImportFrom, ast.FunctionDef, ast.ClassDef, ast.Assign)
        for path in FILES:
            head, *rest = ast.parse(path.read_text()).body
            self.assertIsInstance(getattr(head, "value", None), ast.Constant, path)
            for node in rest:
                self.assertIsInstance(node, allowed, path)
                if isinstance(node, ast.Assign):
                    self.assertEqual([each for each in ast.walk(node) if isinstance(each, ast.Call)], [], path)

    def test_no_default_is_a_list_and_no_argument_has_a_star(self):
        for path, node in each_node(ast.arguments):
            self.assertEqual((node.vararg, node.kwarg, node.posonlyargs, node.kwonlyargs), (None, None, [], []), path)
            self.assertEqual(node.defaults, [], path)

    def test_python_gives_no_warning(self):
        with warnings.catch_warnings():
            warnings.simplefilter("error")
            for path in FILES:
                compile(path.read_text(), str(path), "exec")


if __name__ == "__main__":
    unittest.main()

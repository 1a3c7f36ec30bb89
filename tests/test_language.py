"""Those rules of the language that can be seen from the files alone."""

import ast
import builtins
import pathlib
import re
import unittest

FOLDER = pathlib.Path(__file__).resolve().parent.parent / "relinktree"
FILES = sorted(FOLDER.glob("*.py"))
TREES = {file: ast.parse(file.read_text(encoding="utf-8")) for file in FILES}
SPECIAL = {"__init__", "__eq__", "__repr__", "__str__", "__len__", "__enter__", "__exit__", "__call__", "__iter__"}
BUILTINS = {
    "len", "range", "enumerate", "zip", "min", "max", "sum", "abs", "sorted", "reversed", "int", "str", "bool", "bytes",
    "list", "tuple", "dict", "set", "frozenset", "isinstance", "ord", "repr", "any", "all", "divmod", "iter", "next",
    "Exception", "ValueError", "TypeError", "KeyError", "IndexError", "LookupError", "ZeroDivisionError",
    "ArithmeticError", "OverflowError", "RuntimeError", "NotImplementedError", "AttributeError", "StopIteration",
    "NotImplemented",
}
# These take a list instead of a generator expression, because classes of the package have __eq__.
TAKE_LISTS = {"any", "all", "min", "max", "sum", "sorted"}
METHODS_OF_VALUES = {
    "append", "clear", "copy", "count", "endswith", "extend", "find", "get", "index", "insert", "isalnum", "isalpha",
    "isdigit", "islower", "isspace", "isupper", "items", "join", "keys", "ljust", "lower", "lstrip", "partition", "pop",
    "remove", "replace", "reverse", "rfind", "rjust", "rpartition", "rsplit", "rstrip", "setdefault", "split",
    "splitlines", "startswith", "strip", "update", "upper", "values", "zfill", "bit_length",
}
CHANGES = {"append", "clear", "extend", "insert", "pop", "remove", "reverse", "setdefault", "update", "sort"}
# Names of which a method of a string, a list or a dict would be called instead.
TAKEN = {name for kind in (str, int, bytes, list, tuple, dict, set) for name in dir(kind)} - {
    "add", "count", "copy", "discard", "find", "get", "index", "join", "lower", "split", "strip", "title", "upper",
}
BARRED = re.compile(
    r"\b(type|typing|typing_extensions|enum|Enum|IntEnum|StrEnum|Flag|IntFlag|Generic|Protocol|ABC|ABCMeta|namedtuple"
    r"|NamedTuple|TypedDict|TYPE_CHECKING|abstractmethod)\b|dataclass|overload|contextmanager"
)


def nodes(kinds):
    return [(file, node) for file, tree in TREES.items() for node in ast.walk(tree) if isinstance(node, kinds)]


def methods():
    """The names of the methods of all classes."""
    bodies = [node.body for _, node in nodes(ast.ClassDef)]
    return {part.name for body in bodies for part in body if isinstance(part, ast.FunctionDef)}


def attributes():
    """The names of the attributes that are assigned anywhere."""
    return {node.attr for _, node in nodes(ast.Attribute) if isinstance(node.ctx, ast.Store)}


def defined_names(tree):
    """The names that a file defines at its top."""
    names = []
    for part in tree.body:
        if isinstance(part, (ast.FunctionDef, ast.ClassDef)):
            names.append(part.name)
        if isinstance(part, ast.Assign):
            names += [target.id for target in part.targets]
    return names


class Files(unittest.TestCase):
    def test_the_folder_holds_only_plain_files(self):
        self.assertIn(FOLDER / "__init__.py", FILES)
        for entry in FOLDER.iterdir():
            if entry.name != "__pycache__":
                self.assertRegex(entry.name, r"^(__init__|[a-z][a-z0-9_]*)\.py$")

    def test_characters_and_sizes(self):
        for file in FILES:
            text = file.read_text(encoding="utf-8")
            self.assertRegex(text, r"\A[ -~\n]*\Z", file)
            lines = text.split("\n")
            self.assertLess(len(lines), 400, file)
            self.assertLessEqual(max(len(line) for line in lines), 120, file)

    def test_functions_are_short(self):
        for file, node in nodes(ast.FunctionDef):
            self.assertLessEqual(node.end_lineno - node.lineno + 1, 40, (file, node.name))

    def test_barred_words(self):
        for file in FILES:
            self.assertIsNone(BARRED.search(file.read_text(encoding="utf-8")), file)


class Code(unittest.TestCase):
    def test_imports(self):
        self.assertEqual(nodes(ast.Import), [])
        for file, node in nodes(ast.ImportFrom):
            self.assertEqual(node.level, 0)
            self.assertIn(FOLDER / (node.module.removeprefix("relinktree.") + ".py"), FILES, file)
            self.assertIn(node, TREES[file].body)

    def test_names_are_imported_from_the_file_that_defines_them(self):
        for file, node in nodes(ast.ImportFrom):
            defined = defined_names(TREES[FOLDER / (node.module.removeprefix("relinktree.") + ".py")])
            for alias in node.names:
                self.assertIn(alias.name, defined, (file, node.lineno))
                self.assertIsNone(alias.asname, (file, node.lineno))

    def test_names_of_a_file_are_bound_once_and_used(self):
        for file, tree in TREES.items():
            imported = [alias.name for part in tree.body if isinstance(part, ast.ImportFrom) for alias in part.names]
            bound = imported + defined_names(tree)
            self.assertEqual(len(set(bound)), len(bound), file)
            used = {node.id for node in ast.walk(tree) if isinstance(node, ast.Name)}
            self.assertEqual([name for name in imported if name not in used], [], file)

    def test_only_own_errors_are_caught(self):
        own = defined_names(TREES[FOLDER / "errors.py"])
        for file, node in nodes(ast.ExceptHandler):
            caught = node.type.elts if isinstance(node.type, ast.Tuple) else [node.type]
            for kind in caught:
                self.assertIn(kind.id, own, (file, node.lineno))

    def test_what_is_raised_is_created_on_the_spot(self):
        own = defined_names(TREES[FOLDER / "errors.py"])
        for file, node in nodes(ast.Raise):
            self.assertIn(node.exc.func.id, own, (file, node.lineno))

    def test_lazy_values_are_iterated_on_the_spot(self):
        for file, node in nodes(ast.Assign):
            if isinstance(node.value, ast.Call) and isinstance(node.value.func, ast.Name):
                self.assertNotIn(node.value.func.id, ("zip", "enumerate", "range", "reversed"), (file, node.lineno))
            if isinstance(node.value, ast.Call) and isinstance(node.value.func, ast.Attribute):
                self.assertNotIn(node.value.func.attr, ("items", "keys", "values"), (file, node.lineno))

    def test_what_a_loop_iterates_over_is_not_changed(self):
        for file, node in nodes(ast.For):
            iterated = {ast.unparse(part) for part in ast.walk(node.iter) if isinstance(part, (ast.Name, ast.Attribute))}
            for part in [inner for statement in node.body for inner in ast.walk(statement)]:
                if isinstance(part, ast.Call) and isinstance(part.func, ast.Attribute) and part.func.attr in CHANGES:
                    self.assertNotIn(ast.unparse(part.func.value), iterated, (file, part.lineno))
                if isinstance(part, ast.Subscript) and not isinstance(part.ctx, ast.Load):
                    self.assertNotIn(ast.unparse(part.value), iterated, (file, part.lineno))

    def test_module_level(self):
        for file, tree in TREES.items():
            for node in tree.body:
                plain = (ast.ImportFrom, ast.FunctionDef, ast.ClassDef, ast.Assign)
                docstring = isinstance(node, ast.Expr) and isinstance(node.value, ast.Constant)
                self.assertTrue(docstring or isinstance(node, plain), (file, node.lineno))

    def test_names(self):
        for file, node in nodes((ast.FunctionDef, ast.ClassDef)):
            self.assertTrue(node.name in SPECIAL or not node.name.startswith("_"), (file, node.name))
        for file, node in nodes(ast.Name):
            self.assertFalse(node.id.startswith("_"), (file, node.id))

    def test_builtins(self):
        for file, node in nodes(ast.Name):
            if node.id in vars(builtins):
                self.assertIn(node.id, BUILTINS, (file, node.lineno))
                self.assertIsInstance(node.ctx, ast.Load, (file, node.lineno))
        for file, node in nodes(ast.arg):
            self.assertNotIn(node.arg, vars(builtins), (file, node.lineno))

    def test_generator_expressions(self):
        for file, node in nodes(ast.Call):
            if isinstance(node.func, ast.Name) and node.func.id in TAKE_LISTS:
                for argument in node.args:
                    self.assertNotIsInstance(argument, ast.GeneratorExp, (file, node.lineno))

    def test_identity_only_with_constants(self):
        for file, node in nodes(ast.Compare):
            for sign, value in zip(node.ops, node.comparators):
                if isinstance(sign, (ast.Is, ast.IsNot)):
                    self.assertTrue(isinstance(value, ast.Constant), (file, node.lineno))
                    self.assertIn(value.value, (None, True, False), (file, node.lineno))

    def test_constructs_that_are_barred(self):
        self.assertEqual(nodes((ast.Global, ast.AsyncFunctionDef, ast.Await, ast.Div)), [])
        for file, node in nodes(ast.Constant):
            self.assertNotIsInstance(node.value, float, file)
            self.assertFalse(isinstance(node.value, str) and "%" in node.value, file)

    def test_no_name_is_a_method_and_an_attribute(self):
        self.assertEqual(methods() & attributes(), set())
        self.assertEqual((methods() | attributes()) & TAKEN - SPECIAL, set())

    def test_only_known_methods_and_attributes_are_used(self):
        known = attributes() | methods() | METHODS_OF_VALUES
        for file, node in nodes(ast.Attribute):
            self.assertIn(node.attr, known, (file, node.lineno))

    def test_imported_names_and_classes_mean_nothing_else(self):
        for file, tree in TREES.items():
            imported = {alias.name for part in tree.body if isinstance(part, ast.ImportFrom) for alias in part.names}
            imported |= {part.name for part in tree.body if isinstance(part, ast.ClassDef)}
            for node in ast.walk(tree):
                if isinstance(node, ast.arg):
                    self.assertNotIn(node.arg, imported, (file, node.lineno))
                if isinstance(node, ast.Name) and not isinstance(node.ctx, ast.Load):
                    self.assertNotIn(node.id, imported, (file, node.lineno))

    def test_files_import_each_other_in_one_direction(self):
        uses = {
            file.stem: {part.module.removeprefix("relinktree.") for part in tree.body if isinstance(part, ast.ImportFrom)}
            for file, tree in TREES.items()
        }
        while uses:
            ready = [name for name in uses if not uses[name] & set(uses)]
            self.assertNotEqual(ready, [], uses)
            for name in ready:
                del uses[name]

    def test_special_methods(self):
        for file, node in nodes(ast.FunctionDef):
            if node.name in ("__len__", "__repr__"):
                self.assertIsInstance(node.body[-1], ast.Return, (file, node.name))
            if node.name == "__len__":
                self.assertEqual(node.body[-1].value.func.id, "len", file)
            if node.name in ("__eq__", "__len__", "__repr__"):
                for part in ast.walk(node):
                    self.assertNotIsInstance(part, (ast.Assign, ast.AugAssign, ast.Delete), (file, node.name))

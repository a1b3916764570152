"""The form of the code: those rules of LANGUAGE.md that can be checked by looking at each file's syntax."""

import ast
import builtins
import pathlib
import re
import unittest

PACKAGE = pathlib.Path(__file__).parent.parent / "blockshares"
FILES = sorted(PACKAGE.rglob("*.py"))
TREES = {path: ast.parse(path.read_text()) for path in FILES}

BUILTINS = set((
    "len range enumerate zip min max sum abs sorted reversed int str bool bytes list tuple dict set frozenset "
    "isinstance ord repr any all divmod iter next Exception ValueError TypeError KeyError IndexError LookupError "
    "ZeroDivisionError ArithmeticError OverflowError RuntimeError NotImplementedError AttributeError StopIteration "
    "NotImplemented classmethod staticmethod property super").split())
METHODS = set((
    "append clear copy count endswith extend find get index insert isalnum isalpha isdigit islower isspace isupper "
    "items join keys ljust lower lstrip partition pop remove replace reverse rfind rjust rpartition rsplit rstrip "
    "setdefault split splitlines startswith strip update upper values zfill bit_length add discard").split())
OPERATORS = set((
    "__le__ __add__ __sub__ __mul__ __rmul__ __neg__ __or__ __and__ __contains__ __getitem__ __setitem__").split())
PLAIN = {"__init__", "__eq__", "__len__", "__iter__", "__call__"}
BANNED = re.compile(
    r"\b(type|typing|typing_extensions|enum|Enum|IntEnum|StrEnum|Flag|IntFlag|Generic|Protocol|ABC|ABCMeta|namedtuple"
    r"|NamedTuple|TypedDict|TYPE_CHECKING|abstractmethod)\b|dataclass|overload|contextmanager")
UNUSED = {
    "register", "mro", "elements", "open", "input", "law", "version_info", "with_traceback", "add_note", "format",
    "format_map", "keys"}
NODES = (
    ast.Global, ast.AsyncFunctionDef, ast.AsyncFor, ast.AsyncWith, ast.Await, ast.Import, ast.Yield, ast.YieldFrom,
    ast.GeneratorExp, ast.SetComp, ast.Div, ast.MatMult, ast.AnnAssign, ast.With, ast.Match)


def nodes(*kinds):
    return [(path, node) for path in FILES for node in ast.walk(TREES[path]) if isinstance(node, kinds)]


def functions():
    return nodes(ast.FunctionDef)


def methods_of(tree):
    return [part for node in tree.body if isinstance(node, ast.ClassDef) for part in node.body
            if isinstance(part, ast.FunctionDef)]


def assigned_attributes():
    return {node.attr for path, node in nodes(ast.Attribute) if isinstance(node.ctx, ast.Store)}


def own_methods():
    return {part.name for tree in TREES.values() for part in methods_of(tree)}


class Form(unittest.TestCase):

    def none(self, found):
        self.assertEqual([], [f"{path.name}:{getattr(node, 'lineno', node)}" for path, node in found])

    def test_files_and_characters(self):
        others = [path for path in PACKAGE.rglob("*") if path.is_file() and "__pycache__" not in path.parts]
        self.assertEqual(sorted(others), FILES)
        for path in FILES:
            text = path.read_text(encoding="utf-8")
            self.assertTrue(re.fullmatch(r"[a-z0-9_]+\.py", path.name))
            self.assertEqual(re.findall(r"[^ -~\n]", text), [], path)
            self.assertEqual(BANNED.findall(text), [], path)
            self.assertLessEqual(len(text.splitlines()), 399, path)
            self.assertLessEqual(max([len(line) for line in text.splitlines()]), 120, path)

    def test_functions_are_short(self):
        self.none([(path, node) for path, node in functions() if node.end_lineno - node.lineno >= 40])

    def test_imports_name_the_file_that_defines_the_name(self):
        for path, node in nodes(ast.ImportFrom):
            home = PACKAGE.parent / (node.module.replace(".", "/") + ".py")
            self.assertIn(home, FILES)
            defined = [part.name for part in TREES[home].body if isinstance(part, (ast.FunctionDef, ast.ClassDef))]
            defined += [part.targets[0].id for part in TREES[home].body if isinstance(part, ast.Assign)]
            for name in node.names:
                self.assertIn(name.name, defined)
                self.assertIsNone(name.asname)
            self.assertIn(node, TREES[path].body)

    def test_no_two_files_import_from_each_other(self):
        left = {path.stem: {node.module.split(".")[-1] for node in TREES[path].body if isinstance(node, ast.ImportFrom)}
                for path in FILES}
        while left:
            free = [name for name in left if not left[name] & set(left)]
            self.assertTrue(free, left)
            left = {name: left[name] for name in left if name not in free}

    def test_module_level(self):
        for path in FILES:
            for node in TREES[path].body:
                plain = isinstance(node, (ast.ImportFrom, ast.FunctionDef, ast.ClassDef, ast.Assign))
                text = isinstance(node, ast.Expr) and isinstance(node.value, ast.Constant)
                self.assertTrue(plain or text, f"{path.name}:{node.lineno}")

    def test_only_allowed_statements_and_expressions(self):
        self.none(nodes(*NODES))
        self.none([(path, node) for path, node in nodes(ast.Constant) if isinstance(node.value, (float, complex))])
        self.none([(path, node) for path, node in nodes(ast.Constant)
                   if isinstance(node.value, str) and chr(37) in node.value])

    def test_names(self):
        for path, node in nodes(ast.Name, ast.arg, ast.FunctionDef, ast.ClassDef, ast.Attribute, ast.keyword):
            name = getattr(node, "id", None) or getattr(node, "attr", None) or getattr(node, "name", None)
            name = name or node.arg
            self.assertNotIn(name, UNUSED, path)
            if name not in OPERATORS | PLAIN:
                self.assertRegex(name, "^[A-Za-z][A-Za-z0-9_]*$")

    def test_no_name_means_a_builtin_anew(self):
        bound = [(path, node.id, node) for path, node in nodes(ast.Name) if isinstance(node.ctx, ast.Store)]
        bound += [(path, node.arg, node) for path, node in nodes(ast.arg)]
        bound += [(path, node.name, node) for path, node in nodes(ast.ClassDef)]
        bound += [(path, node.name, node) for path in FILES for node in TREES[path].body
                  if isinstance(node, ast.FunctionDef)]
        self.none([(path, node) for path, name, node in bound if hasattr(builtins, name)])
        self.none([(path, node) for path, node in nodes(ast.Name)
                   if hasattr(builtins, node.id) and node.id not in BUILTINS])

    def test_no_local_name_is_that_of_an_import_or_a_class(self):
        for path in FILES:
            taken = {name.name for node in TREES[path].body if isinstance(node, ast.ImportFrom) for name in node.names}
            taken |= {node.name for node in TREES[path].body if isinstance(node, ast.ClassDef)}
            local = [node for node in ast.walk(TREES[path]) if isinstance(node, ast.arg) and node.arg in taken]
            local += [node for node in ast.walk(TREES[path])
                      if isinstance(node, ast.Name) and isinstance(node.ctx, ast.Store) and node.id in taken]
            self.none([(path, node) for node in local])

    def test_methods_and_attributes_have_unlike_names(self):
        self.assertEqual(own_methods() & assigned_attributes(), set())

    def test_attributes_that_are_read_are_assigned(self):
        known = assigned_attributes() | own_methods() | METHODS
        self.none([(path, node) for path, node in nodes(ast.Attribute) if node.attr not in known])

    def test_double_underscore_methods(self):
        for tree in TREES.values():
            for part in methods_of(tree):
                if part.name.startswith("__"):
                    self.assertIn(part.name, OPERATORS | PLAIN)

    def test_is_stands_beside_none_true_and_false(self):
        for path, node in nodes(ast.Compare):
            for sign, right in zip(node.ops, node.comparators):
                if isinstance(sign, (ast.Is, ast.IsNot)):
                    self.assertTrue(isinstance(right, ast.Constant), f"{path.name}:{node.lineno}")

    def test_nothing_is_sorted_where_classes_have_an_order(self):
        self.none([(path, node) for path, node in nodes(ast.Name) if node.id in ("sorted", "min", "max", "reversed")])
        self.none([(path, node) for path, node in nodes(ast.Attribute) if node.attr == "sort"])

    def test_only_integers_are_added_in_place(self):
        for path, node in nodes(ast.AugAssign):
            self.assertTrue(isinstance(node.value, ast.Constant), f"{path.name}:{node.lineno}")

    def test_methods_that_builtin_values_have_get_no_keywords(self):
        self.none([(path, node) for path, node in nodes(ast.Call)
                   if isinstance(node.func, ast.Attribute) and node.func.attr in METHODS and node.keywords])

    def test_what_is_iterated_at_once(self):
        for path in FILES:
            used = set()
            for node in ast.walk(TREES[path]):
                if isinstance(node, (ast.For, ast.comprehension)):
                    used.add(node.iter)
                if isinstance(node, ast.Call) and isinstance(node.func, ast.Name):
                    used.update(node.args[:1] if node.func.id in ("list", "tuple", "dict", "enumerate") else [])
            calls = [node for node in ast.walk(TREES[path]) if isinstance(node, ast.Call) and (
                getattr(node.func, "id", "") in ("zip", "enumerate", "range")
                or getattr(node.func, "attr", "") in ("items", "values"))]
            self.none([(path, node) for node in calls if node not in used])

    def test_errors_are_created_where_they_are_raised(self):
        self.none([(path, node) for path, node in nodes(ast.Raise) if not isinstance(node.exc, ast.Call)])

    def test_a_class_with_items_has_iter(self):
        for path, node in nodes(ast.ClassDef):
            names = [part.name for part in node.body if isinstance(part, ast.FunctionDef)]
            self.assertTrue("__getitem__" not in names or "__iter__" in names)

    def test_functions_have_docstrings(self):
        self.none([(path, node) for path, node in functions()
                   if not node.name.startswith("__") and ast.get_docstring(node) is None])


if __name__ == "__main__":
    unittest.main()

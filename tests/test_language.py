"""How the package is written: those rules of the Python subset that a look at the files can show."""

import ast
import builtins
import pathlib
import re
import unittest
import warnings

PACKAGE = pathlib.Path(__file__).resolve().parent.parent / "headswap"
FILES = sorted(PACKAGE.rglob("*.py"))
SOURCES = {path: path.read_text(encoding="ascii") for path in FILES}
TREES = {path: ast.parse(text) for path, text in SOURCES.items()}

ALLOWED_BUILTINS = set("""
len range enumerate zip min max sum abs sorted reversed int str bool bytes list tuple dict set frozenset isinstance ord
repr any all divmod super property staticmethod classmethod Exception ValueError TypeError KeyError IndexError
LookupError ZeroDivisionError ArithmeticError OverflowError RuntimeError NotImplementedError AttributeError
StopIteration NotImplemented""".split())
ALLOWED_METHODS = set("""
append clear copy count endswith extend find get index insert isalnum isalpha isdigit islower isspace isupper items
join keys ljust lower lstrip partition pop remove replace reverse rfind rjust rpartition rsplit rstrip setdefault split
splitlines startswith strip update upper values zfill bit_length add discard translate maketrans removeprefix
removesuffix rindex isascii isdecimal isnumeric title center __init__""".split())
ALLOWED_DOUBLE = {"__init__", "__eq__", "__repr__", "__str__", "__len__"}
BARRED_WORDS = re.compile(r"\b(type|typing|typing_extensions|enum|Enum|IntEnum|StrEnum|Flag|IntFlag|Generic|Protocol"
                          r"|ABC|ABCMeta|namedtuple|NamedTuple|TypedDict|TYPE_CHECKING|abstractmethod)\b"
                          r"|dataclass|overload|contextmanager")
BARRED_NAMES = set("""
register mro elements open input version_info with_traceback add_note attrgetter breakpoint builtins compile copyright
credits delattr dir eval exec exit gc getattr globals hasattr help id importlib license locals methodcaller os quit
setattr vars sys""".split())
BARRED_NODES = (ast.Global, ast.AsyncFunctionDef, ast.AsyncFor, ast.AsyncWith, ast.Await, ast.Import, ast.Div,
                ast.MatMult)
AT_THE_TOP = (ast.ImportFrom, ast.FunctionDef, ast.ClassDef, ast.Assign)


def nodes(kind):
    for path, tree in TREES.items():
        for node in ast.walk(tree):
            if isinstance(node, kind):
                yield path, node


def bound_names(tree):
    """Every name that a tree binds anywhere, with the node that binds it."""
    for node in ast.walk(tree):
        if isinstance(node, ast.Name) and isinstance(node.ctx, ast.Store):
            yield node.id, node
        elif isinstance(node, ast.arg):
            yield node.arg, node
        elif isinstance(node, (ast.FunctionDef, ast.ClassDef)):
            yield node.name, node
        elif isinstance(node, ast.ImportFrom):
            for name in node.names:
                yield name.asname or name.name, node
        elif isinstance(node, ast.ExceptHandler) and node.name:
            yield node.name, node


def methods(tree):
    for node in ast.walk(tree):
        if isinstance(node, ast.ClassDef):
            for part in node.body:
                if isinstance(part, ast.FunctionDef):
                    yield part


class Files(unittest.TestCase):
    def test_nothing_else_in_the_folder(self):
        for path in PACKAGE.rglob("*"):
            if "__pycache__" not in path.parts:
                self.assertRegex(path.name, r"^[a-z0-9_]+(\.py)?$")
                self.assertTrue(path.is_dir() or path.suffix == ".py", path)
        self.assertTrue((PACKAGE / "__init__.py").is_file())

    def test_signs_and_sizes(self):
        for path, text in SOURCES.items():
            self.assertRegex(text, r"\A[ -~\n]*\Z", path)
            rows = text.split("\n")
            self.assertLessEqual(len(rows), 400, path)
            self.assertLessEqual(max(len(row) for row in rows), 120, path)
            self.assertIsNone(BARRED_WORDS.search(text), path)

    def test_functions_are_small(self):
        for path, node in nodes(ast.FunctionDef):
            self.assertLessEqual(node.end_lineno - node.lineno + 1, 40, (path, node.name))

    def test_module_level(self):
        for path, tree in TREES.items():
            self.assertIsNotNone(ast.get_docstring(tree), path)
            for node in tree.body[1:]:
                self.assertIsInstance(node, AT_THE_TOP, path)


class Imports(unittest.TestCase):
    def needs(self, path):
        told = []
        for node in ast.walk(TREES[path]):
            if isinstance(node, ast.ImportFrom):
                self.assertEqual(node.level, 0, path)
                self.assertRegex(node.module, r"^headswap\.[a-z0-9_]+$")
                source = PACKAGE / (node.module.split(".")[1] + ".py")
                at_top = {name for part in TREES[source].body if not isinstance(part, ast.ImportFrom)
                          for name, _ in bound_names(part)}
                for name in node.names:
                    self.assertIn(name.name, at_top, path)
                told.append(source)
        return told

    def test_no_ring(self):
        left = {path: self.needs(path) for path in FILES}
        while left:
            free = [path for path in left if not any(need in left for need in left[path])]
            self.assertTrue(free, list(left))
            for path in free:
                del left[path]

    def test_imports_stand_at_the_top(self):
        for path, tree in TREES.items():
            kinds = [isinstance(node, ast.ImportFrom) for node in tree.body[1:]]
            self.assertEqual(kinds, sorted(kinds, reverse=True), path)


class Code(unittest.TestCase):
    def test_python_warns_of_nothing(self):
        for path, text in SOURCES.items():
            with warnings.catch_warnings():
                warnings.simplefilter("error")
                compile(text, str(path), "exec")

    def test_barred_nodes(self):
        for path, node in nodes(BARRED_NODES):
            self.fail((path, node.lineno))

    def test_numbers_and_strings(self):
        for path, node in nodes(ast.Constant):
            self.assertNotIsInstance(node.value, (float, complex), path)
            if isinstance(node.value, str):
                self.assertNotIn("%", node.value, path)

    def test_is(self):
        for path, node in nodes(ast.Compare):
            for sign, value in zip(node.ops, node.comparators):
                if isinstance(sign, (ast.Is, ast.IsNot)):
                    self.assertIn(getattr(value, "value", "other"), (None, True, False), (path, node.lineno))

    def test_functions(self):
        for path, node in nodes((ast.FunctionDef, ast.Lambda)):
            self.assertEqual(node.args.posonlyargs, [], path)
        for path, node in nodes((ast.FunctionDef, ast.ClassDef)):
            self.assertEqual(node.decorator_list, [], (path, node.name))

    def test_lists_where_things_are_compared(self):
        for path, node in nodes(ast.Call):
            if isinstance(node.func, ast.Name) and node.func.id in ("any", "all", "min", "max", "sum", "sorted"):
                for value in node.args:
                    self.assertNotIsInstance(value, ast.GeneratorExp, (path, node.lineno))

    def test_iterated_on_the_spot(self):
        for path, node in nodes((ast.Assign, ast.Return)):
            if isinstance(node.value, ast.Call):
                name = getattr(node.value.func, "id", getattr(node.value.func, "attr", None))
                barred = ("zip", "enumerate", "reversed", "range", "items", "keys", "values")
                self.assertNotIn(name, barred, (path, node.lineno))

    def test_no_power_but_a_literal_one(self):
        for path, node in nodes((ast.BinOp, ast.AugAssign)):
            if isinstance(node.op, ast.Pow):
                self.fail((path, node.lineno))

    def test_raise(self):
        for path, node in nodes(ast.Raise):
            if node.exc is not None:
                self.assertIsInstance(node.exc, ast.Call, (path, node.lineno))


class Names(unittest.TestCase):
    def test_plain(self):
        for path, tree in TREES.items():
            for name, node in bound_names(tree):
                self.assertTrue(re.match(r"[A-Za-z][A-Za-z0-9_]*\Z", name) or name in ALLOWED_DOUBLE, (path, name))
                self.assertNotIn(name, BARRED_NAMES, path)

    def test_no_builtin_has_another_meaning(self):
        for path, tree in TREES.items():
            own = {node for node in methods(tree)}
            top = {name for part in tree.body if isinstance(part, (ast.ClassDef, ast.ImportFrom))
                   for name, node in bound_names(part) if isinstance(node, (ast.ClassDef, ast.ImportFrom))}
            for name, node in bound_names(tree):
                if node not in own:
                    self.assertNotIn(name, vars(builtins), (path, node.lineno))
                if isinstance(node, (ast.Name, ast.arg)):
                    self.assertNotIn(name, top, (path, node.lineno))

    def test_only_builtins_of_the_list(self):
        for path, tree in TREES.items():
            bound = {name for name, _ in bound_names(tree)}
            for node in ast.walk(tree):
                if isinstance(node, ast.Name) and node.id not in bound:
                    self.assertIn(node.id, ALLOWED_BUILTINS, (path, node.lineno))

    def test_bound_once_at_module_level(self):
        for path, tree in TREES.items():
            told = []
            for part in tree.body:
                if isinstance(part, (ast.FunctionDef, ast.ClassDef)):
                    told.append(part.name)
                else:
                    told.extend(name for name, _ in bound_names(part))
            self.assertEqual(len(told), len(set(told)), path)

    def test_methods_and_attributes(self):
        own = {node.name for tree in TREES.values() for node in methods(tree)}
        stored = {node.attr for _, node in nodes(ast.Attribute) if isinstance(node.ctx, ast.Store)}
        self.assertEqual(own & stored, set())
        for path, node in nodes(ast.Attribute):
            if isinstance(node.ctx, ast.Load):
                self.assertIn(node.attr, own | stored | ALLOWED_METHODS, (path, node.lineno))
        for tree in TREES.values():
            for node in ast.walk(tree):
                if isinstance(node, ast.ClassDef):
                    names = [part.name for part in node.body if isinstance(part, ast.FunctionDef)]
                    self.assertEqual(len(names), len(set(names)), node.name)


if __name__ == "__main__":
    unittest.main()

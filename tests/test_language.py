"""The program keeps to the part of Python that LANGUAGE.md tells, as far as a walk over the files can see it."""

import ast
import builtins
import re
import unittest
from pathlib import Path

PACKAGE = Path(__file__).resolve().parent.parent / "tickstore"
FILES = sorted(path for path in PACKAGE.rglob("*") if path.is_file() and "__pycache__" not in path.parts)
TREES = {path: ast.parse(path.read_text(encoding="utf-8")) for path in FILES if path.suffix == ".py"}

BUILTINS = set("""len range enumerate zip min max sum abs sorted reversed int str bool list tuple dict set frozenset
    isinstance ord repr any all divmod Exception ValueError TypeError KeyError IndexError LookupError
    ZeroDivisionError ArithmeticError OverflowError RuntimeError NotImplementedError AttributeError
    StopIteration""".split())
METHODS = set("""append clear copy count endswith extend find get index insert isalnum isalpha isdigit islower isspace
    isupper items join keys ljust lower lstrip partition pop remove replace reverse rfind rjust rpartition rsplit rstrip
    setdefault split splitlines startswith strip update upper values zfill bit_length""".split())
WORDS = set("""type typing typing_extensions enum Enum IntEnum StrEnum Flag IntFlag Generic Protocol ABC ABCMeta
    namedtuple NamedTuple TypedDict TYPE_CHECKING abstractmethod""".split())
NAMES = set("""register mro elements open input version_info with_traceback add_note attrgetter breakpoint builtins
    compile copyright credits delattr dir eval exec exit gc getattr globals hasattr help id importlib license locals
    methodcaller os quit setattr super type vars sys""".split())
NODES = """Module Expr Constant ImportFrom alias FunctionDef arguments arg ClassDef Assign AugAssign If While For Return
    Break Continue Pass Raise Try ExceptHandler Call Name Attribute Subscript Slice Load Store List Tuple Dict Set
    BinOp UnaryOp BoolOp Compare IfExp Lambda ListComp comprehension JoinedStr FormattedValue keyword Add Sub Mult
    FloorDiv Mod Pow BitOr BitAnd BitXor LShift RShift Invert USub UAdd Not And Or Eq NotEq Lt LtE Gt GtE In NotIn Is
    IsNot""".split()


def nodes(kind):
    return [(path, node) for path, tree in TREES.items() for node in ast.walk(tree) if isinstance(node, kind)]


def places(found):
    return [f"{path.name}:{getattr(node, 'lineno', 0)}" for path, node in found]


def bound_names(tree):
    """The names that a file binds anywhere."""
    names = []
    for node in ast.walk(tree):
        if isinstance(node, (ast.FunctionDef, ast.ClassDef)):
            names.append(node.name)
        elif isinstance(node, ast.arg):
            names.append(node.arg)
        elif isinstance(node, ast.Name) and isinstance(node.ctx, ast.Store):
            names.append(node.id)
        elif isinstance(node, ast.alias):
            names.append(node.asname or node.name)
    return names


def top_names(tree):
    names = []
    for node in tree.body:
        if isinstance(node, (ast.FunctionDef, ast.ClassDef)):
            names.append(node.name)
        elif isinstance(node, ast.Assign):
            names.extend(target.id for target in node.targets)
    return names


def module_file(module):
    return PACKAGE / (module.split(".")[1] + ".py")


class Files(unittest.TestCase):
    def test_names_and_signs(self):
        for path in FILES:
            self.assertEqual(path.parent, PACKAGE)
            self.assertRegex(path.name, r"\A(__init__|__main__|[a-z][a-z0-9_]*)\.py\Z")
            self.assertNotIn(path.stem, dir(builtins))
            self.assertRegex(path.read_text(encoding="utf-8"), r"\A[ -~\n]*\Z")
        self.assertTrue((PACKAGE / "__init__.py").is_file())

    def test_sizes(self):
        for path, tree in TREES.items():
            lines = path.read_text(encoding="utf-8").splitlines()
            self.assertLessEqual(len(lines), 399, path.name)
            self.assertLessEqual(max(len(line) for line in lines), 120, path.name)
        for path, node in nodes(ast.FunctionDef):
            self.assertLessEqual(node.end_lineno - node.lineno + 1, 40, f"{path.name} {node.name}")

    def test_words(self):
        for path in FILES:
            text = path.read_text(encoding="utf-8")
            self.assertEqual(set(re.findall(r"\w+", text)) & WORDS, set(), path.name)
            self.assertIsNone(re.search("dataclass|overload|contextmanager", text), path.name)

    def test_imports(self):
        drawn = {}
        for path, node in nodes(ast.ImportFrom):
            self.assertEqual(node.level, 0)
            self.assertTrue(node.module.startswith("tickstore."), path.name)
            drawn.setdefault(path, set()).add(module_file(node.module))
            for name in node.names:
                self.assertIsNone(name.asname)
                self.assertIn(name.name, top_names(TREES[module_file(node.module)]), path.name)
        rest = dict(drawn)
        while rest:
            ready = [path for path in rest if not rest[path] & set(rest)]
            self.assertTrue(ready, "files that draw from one another")
            for path in ready:
                del rest[path]

    def test_the_interface_stands_in_its_file(self):
        self.assertIn("answers", top_names(TREES[PACKAGE / "disk.py"]))
        self.assertEqual([path.name for path in TREES if "answers" in top_names(TREES[path])], ["disk.py"])


class Forms(unittest.TestCase):
    def test_statements_and_expressions(self):
        found = [(path, node) for path, node in nodes(ast.AST) if type(node).__name__ not in NODES]
        self.assertEqual(places(found), [])

    def test_the_top_of_each_file(self):
        for path, tree in TREES.items():
            self.assertIsNotNone(ast.get_docstring(tree), path.name)
            for node in tree.body[1:]:
                self.assertIsInstance(node, (ast.ImportFrom, ast.FunctionDef, ast.ClassDef, ast.Assign), path.name)
            names = top_names(tree)
            self.assertEqual(len(names), len(set(names)), path.name)

    def test_functions_and_classes(self):
        for path, node in nodes(ast.FunctionDef):
            given = node.args
            self.assertFalse(given.vararg or given.kwarg or given.kwonlyargs or given.posonlyargs, node.name)
            self.assertEqual(node.decorator_list, [])
        for path, node in nodes(ast.ClassDef):
            self.assertEqual((node.decorator_list, node.keywords), ([], []))
            self.assertLessEqual(len(node.bases), 1)
            self.assertIn(node, TREES[path].body)
            for part in node.body[1:]:
                self.assertIsInstance(part, ast.FunctionDef)

    def test_loops_and_assignments(self):
        self.assertEqual(places((path, node) for path, node in nodes((ast.For, ast.While)) if node.orelse), [])
        self.assertEqual(places((path, node) for path, node in nodes(ast.Assign) if len(node.targets) > 1), [])
        self.assertEqual(places((path, node) for path, node in nodes(ast.Try) if node.finalbody), [])

    def test_constants(self):
        for path, node in nodes(ast.Constant):
            self.assertIn(type(node.value), (int, str, bool, type(None)), path.name)

    def test_is_stands_beside_none_true_and_false(self):
        for path, node in nodes(ast.Compare):
            for sign, right in zip(node.ops, node.comparators):
                if isinstance(sign, (ast.Is, ast.IsNot)):
                    self.assertIsInstance(right, ast.Constant)
                    self.assertIn(right.value, (None, True, False))


class Names(unittest.TestCase):
    def test_bound_names(self):
        for path, tree in TREES.items():
            for name in bound_names(tree):
                if name != "__init__":
                    self.assertRegex(name, r"\A[A-Za-z][A-Za-z0-9_]*\Z", path.name)
                self.assertNotIn(name, dir(builtins), path.name)
                self.assertNotIn(name, NAMES, path.name)

    def test_read_names(self):
        for path, tree in TREES.items():
            known = set(bound_names(tree)) | BUILTINS
            read = {node.id for node in ast.walk(tree) if isinstance(node, ast.Name)}
            self.assertEqual(read - known, set(), path.name)

    def test_no_local_is_called_like_a_class_or_an_import(self):
        for path, tree in TREES.items():
            shared = {node.name for node in tree.body if isinstance(node, ast.ClassDef)}
            shared |= {node.name for node in ast.walk(tree) if isinstance(node, ast.alias)}
            for function in [node for node in ast.walk(tree) if isinstance(node, ast.FunctionDef)]:
                inner = set(bound_names(function)) - {function.name}
                self.assertEqual(inner & shared, set(), f"{path.name} {function.name}")

    def test_methods_and_values(self):
        methods = {part.name for path, node in nodes(ast.ClassDef) for part in node.body
                   if isinstance(part, ast.FunctionDef)}
        values = {node.attr for path, node in nodes(ast.Attribute) if isinstance(node.ctx, ast.Store)}
        self.assertEqual(methods & values, set())
        self.assertEqual(values & (set(dir(list)) | set(dir(dict)) | set(dir(str)) | set(dir(int)) | NAMES), set())
        called = {node.func.attr for path, node in nodes(ast.Call) if isinstance(node.func, ast.Attribute)}
        self.assertEqual(called - methods - METHODS, set())
        used = {node.attr for path, node in nodes(ast.Attribute)}
        self.assertEqual(used - methods - METHODS - values, set())

    def test_values_are_given_through_a_local_name(self):
        for path, node in nodes(ast.Attribute):
            if isinstance(node.ctx, ast.Store):
                self.assertIsInstance(node.value, ast.Name)
                self.assertNotIn(node.value.id, top_names(TREES[path]))


if __name__ == "__main__":
    unittest.main()

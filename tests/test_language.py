"""The package keeps to the small part of Python that it is to be written in: what can be seen of it at a glance."""

import ast
import re
import unittest
from pathlib import Path

PACKAGE = Path(__file__).resolve().parent.parent / "turnshares"
FILES = sorted(path for path in PACKAGE.rglob("*") if path.is_file() and "__pycache__" not in path.parts)
TREES = [(path, ast.parse(path.read_text(encoding="utf-8"))) for path in FILES if path.suffix == ".py"]

NODES = """Module Expr Constant ImportFrom alias FunctionDef arguments arg ClassDef Assign AugAssign If While For Return
Break Continue Pass Raise Try ExceptHandler Call Name Attribute Subscript Slice List Tuple Dict Set BinOp UnaryOp BoolOp
Compare IfExp ListComp comprehension JoinedStr FormattedValue Lambda Load Store keyword
Add Sub Mult FloorDiv Mod Pow LShift RShift BitOr BitXor BitAnd Invert Not USub UAdd And Or
Eq NotEq Lt LtE Gt GtE Is IsNot In NotIn""".split()
OWN_NAMES = """len range enumerate zip min max sum abs sorted reversed int str bool list tuple dict set frozenset
isinstance ord repr any all divmod Exception ValueError TypeError KeyError IndexError LookupError ZeroDivisionError
ArithmeticError OverflowError RuntimeError NotImplementedError AttributeError StopIteration""".split()
METHODS = """append clear copy count endswith extend find get index insert isalnum isalpha isdigit islower isspace isupper
items join keys ljust lower lstrip partition pop remove replace reverse rfind rjust rpartition rsplit rstrip setdefault
split splitlines startswith strip update upper values zfill bit_length""".split()
WORDS = """type typing typing_extensions enum Enum IntEnum StrEnum Flag IntFlag Generic Protocol ABC ABCMeta namedtuple
NamedTuple TypedDict TYPE_CHECKING abstractmethod""".split()


def all_nodes(kind):
    return [node for path, tree in TREES for node in ast.walk(tree) if isinstance(node, kind)]


class FilesTest(unittest.TestCase):
    def test_files(self):
        self.assertIn(PACKAGE / "__init__.py", FILES)
        self.assertIn(PACKAGE / "world.py", FILES)
        for path in FILES:
            self.assertRegex(path.name, r"^[a-z0-9_]+\.py$")

    def test_signs_and_sizes(self):
        for path in FILES:
            text = path.read_bytes().decode("ascii")
            self.assertRegex(text, r"\A[ -~\n]*\Z", path)
            self.assertLessEqual(len(text.split("\n")), 400, path)
            self.assertLessEqual(max(len(line) for line in text.split("\n")), 120, path)
            self.assertEqual(set(re.findall(r"\w+", text)) & set(WORDS), set(), path)
            self.assertNotRegex(text, "dataclass|overload|contextmanager", path)

    def test_functions_are_short(self):
        for node in all_nodes(ast.FunctionDef):
            self.assertLessEqual(node.end_lineno - node.lineno + 1, 40, node.name)


class CodeTest(unittest.TestCase):
    def test_kinds_of_code(self):
        self.assertEqual({name for name in map(kind_of, all_nodes(ast.AST)) if name not in NODES}, set())

    def test_imports_are_the_package_s_own(self):
        for node in all_nodes(ast.ImportFrom):
            self.assertEqual(node.level, 0)
            self.assertRegex(node.module, r"^turnshares\.[a-z]+$")

    def test_imports_are_from_the_file_that_defines_the_name(self):
        drawn = {}
        for path, tree in TREES:
            drawn[path.stem] = [node.module.split(".")[1] for node in tree.body if isinstance(node, ast.ImportFrom)]
            for node in tree.body:
                if isinstance(node, ast.ImportFrom):
                    defined = names_at_the_top(dict(TREES)[PACKAGE / (node.module.split(".")[1] + ".py")])
                    self.assertLessEqual({alias.name for alias in node.names}, set(defined))
                    self.assertEqual({alias.asname for alias in node.names}, {None})
        # No file draws from itself, in whatever many steps.
        while drawn:
            ready = [name for name in drawn if not any(other in drawn for other in drawn[name])]
            self.assertNotEqual(ready, [])
            drawn = {name: drawn[name] for name in drawn if name not in ready}

    def test_tops_of_files(self):
        for path, tree in TREES:
            self.assertIsNotNone(ast.get_docstring(tree), path)
            for node in tree.body[1:]:
                self.assertIsInstance(node, (ast.ImportFrom, ast.FunctionDef, ast.ClassDef, ast.Assign), path)
                if isinstance(node, ast.Assign):
                    self.assertEqual(set(map(kind_of, ast.walk(node.value))) -
                                     {"Constant", "Tuple", "Name", "Load", "UnaryOp", "USub"}, set(), path)
            names = names_at_the_top(tree)
            self.assertEqual(len(names), len(set(names)), path)

    def test_locals_are_not_called_like_imports_or_classes(self):
        for path, tree in TREES:
            taken = {alias.name for node in ast.walk(tree) if isinstance(node, ast.ImportFrom) for alias in node.names}
            taken |= {node.name for node in ast.walk(tree) if isinstance(node, ast.ClassDef)}
            used = {node.arg for node in ast.walk(tree) if isinstance(node, ast.arg)}
            names = [node for node in ast.walk(tree) if isinstance(node, ast.Name)]
            used |= {node.id for node in names if isinstance(node.ctx, ast.Store)}
            self.assertEqual(taken & used, set(), path)

    def test_statements_and_expressions_are_plain(self):
        for node in all_nodes(ast.Assign):
            self.assertEqual(len(node.targets), 1)
            self.assertNotIsInstance(node.targets[0], (ast.Tuple, ast.List))
        for node in all_nodes((ast.For, ast.While)):
            self.assertEqual(node.orelse, [])
        for node in all_nodes(ast.ListComp):
            self.assertEqual(len(node.generators), 1)
            self.assertLessEqual(len(node.generators[0].ifs), 1)
        for node in all_nodes(ast.Compare):
            for operator, other in zip(node.ops, node.comparators):
                if isinstance(operator, (ast.Is, ast.IsNot)):
                    self.assertIn(ast.unparse(other), ("None", "True", "False"))
        for node in all_nodes(ast.Constant):
            self.assertIsInstance(node.value, (int, str, type(None)))
        for node in all_nodes(ast.FunctionDef):
            annotations = [arg.annotation for arg in node.args.args] + [node.returns]
            self.assertEqual(set(annotations), {None}, node.name)
        self.assertEqual(all_nodes((ast.Set, ast.Pow)), [])

    def test_what_is_walked_on_the_spot(self):
        walked = [node.iter for node in all_nodes((ast.For, ast.comprehension))]
        walked += [node.args[0] for node in all_nodes(ast.Call) if isinstance(node.func, ast.Name) and node.args]
        for node in all_nodes(ast.Call):
            if isinstance(node.func, ast.Name) and node.func.id in ("zip", "enumerate", "reversed", "range"):
                self.assertIn(node, walked)

    def test_functions_are_plain(self):
        for node in all_nodes(ast.FunctionDef):
            self.assertEqual((node.decorator_list, node.args.vararg, node.args.kwarg, node.args.kwonlyargs),
                             ([], None, None, []))

    def test_names(self):
        bound = {node.name for node in all_nodes((ast.FunctionDef, ast.ClassDef))}
        bound |= {node.arg for node in all_nodes(ast.arg)} | {node.name for node in all_nodes(ast.alias)}
        bound |= {node.id for node in all_nodes(ast.Name) if isinstance(node.ctx, ast.Store)}
        for name in bound - {"__init__"}:
            self.assertRegex(name, r"^[A-Za-z][A-Za-z0-9_]*$")
            self.assertFalse(hasattr(__builtins__, name) if not isinstance(__builtins__, dict)
                             else name in __builtins__, name)
        read = {node.id for node in all_nodes(ast.Name)}
        self.assertEqual(read - bound - set(OWN_NAMES) - {"self"}, set())

    def test_methods(self):
        own = {node.name for tree in all_nodes(ast.ClassDef) for node in tree.body if isinstance(node, ast.FunctionDef)}
        called = {node.func.attr for node in all_nodes(ast.Call) if isinstance(node.func, ast.Attribute)}
        self.assertEqual(called - own - set(METHODS), set())
        kept = {node.attr for node in all_nodes(ast.Attribute) if isinstance(node.ctx, ast.Store)}
        self.assertEqual(kept & own, set())
        for kind in (str, int, list, dict, set, bytes, tuple):
            self.assertEqual((own | kept) & set(dir(kind)) - {"__init__"}, set())


def names_at_the_top(tree):
    names = [node.name for node in tree.body if isinstance(node, (ast.FunctionDef, ast.ClassDef))]
    names += [alias.name for node in tree.body if isinstance(node, ast.ImportFrom) for alias in node.names]
    return names + [node.targets[0].id for node in tree.body if isinstance(node, ast.Assign)]


def kind_of(node):
    return type(node).__name__


if __name__ == "__main__":
    unittest.main()

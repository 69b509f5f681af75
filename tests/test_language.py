"""Holds the package's files to those rules of the language part that a plain look at the code can see."""
import ast
import builtins
import pathlib
import re
import unittest

PACKAGE = pathlib.Path(__file__).resolve().parent.parent / "heapsafe"

ALLOWED_BUILTINS = set(
    "len range enumerate zip min max sum abs sorted reversed int str bool list tuple dict set frozenset isinstance "
    "ord repr any all divmod Exception ValueError TypeError KeyError IndexError LookupError ZeroDivisionError "
    "ArithmeticError OverflowError RuntimeError NotImplementedError AttributeError StopIteration".split())
ALLOWED_DUNDERS = set("__init__ __eq__ __repr__ __str__ __len__ __all__ __version__".split())
ALLOWED_NODES = set(
    "Module FunctionDef ClassDef arguments arg Assign AugAssign If While For Return Break Continue Pass Raise Try "
    "ExceptHandler Expr Call keyword ImportFrom alias Constant List Tuple Dict Name Attribute Subscript Slice "
    "BinOp UnaryOp BoolOp Compare IfExp ListComp comprehension JoinedStr FormattedValue Lambda Load Store "
    "Add Sub Mult FloorDiv Mod Pow BitAnd BitOr BitXor LShift RShift Invert USub UAdd Not And Or "
    "Eq NotEq Lt LtE Gt GtE Is IsNot In NotIn".split())
BANNED_WORDS = re.compile(
    r"\b(type|typing|typing_extensions|enum|Enum|IntEnum|StrEnum|Flag|IntFlag|Generic|Protocol|ABC|ABCMeta|namedtuple"
    r"|NamedTuple|TypedDict|TYPE_CHECKING|abstractmethod)\b|dataclass|overload|contextmanager")
BANNED_NAMES = set("register mro elements open input version_info with_traceback add_note format format_map".split())


def package_files():
    return sorted(path for path in PACKAGE.rglob("*") if path.is_file() and "__pycache__" not in path.parts)


def parsed():
    return [(path, ast.parse(path.read_text(encoding="ascii"))) for path in package_files()]


def walked():
    return [(f"{path.name}:{getattr(node, 'lineno', 0)}", node) for path, tree in parsed() for node in ast.walk(tree)]


def own_names(node):
    if isinstance(node, (ast.FunctionDef, ast.ClassDef)):
        return [node.name]
    if isinstance(node, ast.arg):
        return [node.arg]
    if isinstance(node, ast.Name):
        return [node.id]
    if isinstance(node, ast.Attribute):
        return [node.attr]
    return []


class TheLanguage(unittest.TestCase):
    def test_files(self):
        self.assertIn(PACKAGE / "__init__.py", package_files())
        for path in package_files():
            self.assertRegex(path.name, r"^([a-z][a-z0-9_]*|__init__)\.py$")
            self.assertTrue(path.stem == "__init__" or not hasattr(builtins, path.stem), path.name)

    def test_signs_and_sizes(self):
        for path in package_files():
            rows = path.read_text(encoding="ascii").split("\n")
            self.assertLessEqual(len(rows), 401, path.name)
            for number, row in enumerate(rows, start=1):
                self.assertRegex(row, r"^[ -~]{0,120}$", f"{path.name}:{number}")
                self.assertIsNone(BANNED_WORDS.search(row), f"{path.name}:{number}")

    def test_functions_are_small_and_plain(self):
        for where, node in walked():
            if isinstance(node, ast.FunctionDef):
                self.assertLessEqual(node.end_lineno - node.lineno + 1, 40, where)
                self.assertEqual((node.decorator_list, node.args.vararg, node.args.kwarg), ([], None, None), where)
                self.assertEqual((node.args.kwonlyargs, node.args.posonlyargs), ([], []), where)

    def test_only_allowed_statements_and_expressions(self):
        for where, node in walked():
            self.assertIn(node.__class__.__name__, ALLOWED_NODES, where)
            if isinstance(node, (ast.For, ast.While)):
                self.assertEqual(node.orelse, [], where)
            if isinstance(node, ast.Try):
                self.assertEqual(node.finalbody, [], where)
            if isinstance(node, ast.Constant):
                self.assertIsInstance(node.value, (int, str, type(None)), where)
                self.assertNotIn("%", str(node.value), where)

    def test_expressions_by_themselves_are_calls(self):
        for path, tree in parsed():
            inner = [node for node in ast.walk(tree) if isinstance(node, ast.Expr) and node is not tree.body[0]]
            for node in inner:
                self.assertIsInstance(node.value, ast.Call, f"{path.name}:{node.lineno}")

    def test_imports(self):
        for path, tree in parsed():
            for node in ast.walk(tree):
                if isinstance(node, ast.ImportFrom):
                    self.assertEqual(node.level, 0, path.name)
                    self.assertIn(node, tree.body, path.name)
                    self.assertRegex(node.module, r"^heapsafe\.", path.name)
                    self.assertNotIn("*", [name.name for name in node.names], path.name)

    def test_names(self):
        for where, node in walked():
            for name in own_names(node):
                self.assertNotIn(name, BANNED_NAMES, where)
                if name not in ALLOWED_DUNDERS:
                    self.assertFalse(name.startswith("_"), f"{where} {name}")

    def test_names_of_pythons_own(self):
        for where, node in walked():
            if isinstance(node, ast.Name) and hasattr(builtins, node.id):
                self.assertIn(node.id, ALLOWED_BUILTINS, where)
                self.assertIsInstance(node.ctx, ast.Load, where)
            if isinstance(node, ast.arg):
                self.assertFalse(hasattr(builtins, node.arg), where)

    def test_is_stands_beside_none_and_truths_alone(self):
        for where, node in walked():
            if isinstance(node, ast.Compare) and isinstance(node.ops[0], (ast.Is, ast.IsNot)):
                self.assertIsInstance(node.comparators[0], ast.Constant, where)
                self.assertIn(repr(node.comparators[0].value), ("None", "True", "False"), where)

    def test_no_name_is_a_method_and_a_value(self):
        methods, values = set(), set()
        for where, node in walked():
            if isinstance(node, ast.ClassDef):
                methods.update(part.name for part in node.body if isinstance(part, ast.FunctionDef))
            if isinstance(node, ast.Attribute) and isinstance(node.ctx, ast.Store):
                values.add(node.attr)
        self.assertEqual(methods & values, set())


if __name__ == "__main__":
    unittest.main()

"""Holds the package's files to those rules of the language part that a plain look at the code can see."""
import ast
import builtins
import functools
import pathlib
import re
import unittest

PACKAGE = pathlib.Path(__file__).resolve().parent.parent / "heapsafe"

ALLOWED_BUILTINS = set(
    "len range enumerate zip min max sum abs sorted reversed int str bool list tuple dict set frozenset isinstance "
    "ord repr any all divmod Exception ValueError TypeError KeyError IndexError LookupError ZeroDivisionError "
    "ArithmeticError OverflowError RuntimeError NotImplementedError AttributeError StopIteration".split())
ALLOWED_DUNDERS = set("__init__ __eq__ __repr__ __str__ __len__ __all__ __version__".split())
ALLOWED_NODES = set(
    "Module FunctionDef ClassDef arguments arg Assign AugAssign If While For Return Break Continue Pass Raise Try "
    "ExceptHandler Expr Call keyword ImportFrom alias Constant List Tuple Dict Name Attribute Subscript Slice "
    "BinOp UnaryOp BoolOp Compare IfExp ListComp comprehension JoinedStr FormattedValue Lambda Load Store "
    "Add Sub Mult FloorDiv Mod Pow BitAnd BitOr BitXor LShift RShift Invert USub UAdd Not And Or "
    "Eq NotEq Lt LtE Gt GtE Is IsNot In NotIn".split())
BANNED_WORDS = re.compile(
    r"\b(type|typing|typing_extensions|enum|Enum|IntEnum|StrEnum|Flag|IntFlag|Generic|Protocol|ABC|ABCMeta|namedtuple"
    r"|NamedTuple|TypedDict|TYPE_CHECKING|abstractmethod)\b|dataclass|overload|contextmanager")
LISTED_METHODS = set(
    "append clear copy count endswith extend find get index insert isalnum isalpha isdigit islower isspace isupper "
    "items join keys ljust lower lstrip partition pop remove replace reverse rfind rjust rpartition rsplit rstrip "
    "setdefault split splitlines startswith strip update upper values zfill bit_length".split())
KEYWORDS = {"sorted": {"key", "reverse"}, "min": {"key", "default"}, "max": {"key", "default"},
            "sum": {"start"}, "enumerate": {"start"}, "zip": {"strict"}}
WALKED = {"zip", "enumerate", "reversed", "range", "items", "keys", "values"}
WALKERS = {"list", "tuple", "dict", "sorted", "sum", "any", "all", "enumerate", "zip", "min", "max"}
CALLED_ALONE = ALLOWED_BUILTINS - {"int", "str", "bool", "list", "tuple", "dict"}
BANNED_NAMES = set("register mro elements open input version_info with_traceback add_note format format_map".split())


def package_files():
    return sorted(path for path in PACKAGE.rglob("*") if path.is_file() and "__pycache__" not in path.parts)


@functools.lru_cache(maxsize=None)
def parsed():
    return [(path, ast.parse(path.read_text(encoding="ascii"))) for path in package_files()]


@functools.lru_cache(maxsize=None)
def walked():
    return [(f"{path.name}:{getattr(node, 'lineno', 0)}", node) for path, tree in parsed() for node in ast.walk(tree)]


def own_names(node):
    if isinstance(node, (ast.FunctionDef, ast.ClassDef)):
        return [node.name]
    if isinstance(node, ast.arg):
        return [node.arg]
    if isinstance(node, ast.Name):
        return [node.id]
    if isinstance(node, ast.Attribute):
        return [node.attr]
    return []


def with_parents(tree):
    return {child: node for node in ast.walk(tree) for child in ast.iter_child_nodes(node)}


def defs_in(tree, kind):
    return [node for node in ast.walk(tree) if isinstance(node, kind)]


@functools.lru_cache(maxsize=None)
def own_methods():
    return {part.name for path, tree in parsed() for node in defs_in(tree, ast.ClassDef)
            for part in node.body if isinstance(part, ast.FunctionDef)}


@functools.lru_cache(maxsize=None)
def own_values():
    return {node.attr for where, node in walked() if isinstance(node, ast.Attribute) and isinstance(node.ctx, ast.Store)}


@functools.lru_cache(maxsize=None)
def own_classes():
    return {node.name for where, node in walked() if isinstance(node, ast.ClassDef)}


def imports_of(tree):
    return [(node.module, alias.name) for node in defs_in(tree, ast.ImportFrom) for alias in node.names]


def bound_at_top(tree):
    names = []
    for node in tree.body:
        if isinstance(node, (ast.FunctionDef, ast.ClassDef)):
            names.append(node.name)
        elif isinstance(node, ast.ImportFrom):
            names.extend(alias.name for alias in node.names)
        elif isinstance(node, ast.Assign):
            names.append(node.targets[0].id)
    return names


def called_name(node):
    if isinstance(node, ast.Call) and isinstance(node.func, ast.Name):
        return node.func.id
    if isinstance(node, ast.Call) and isinstance(node.func, ast.Attribute):
        return node.func.attr
    return None


class TheLanguage(unittest.TestCase):
    def test_files(self):
        self.assertIn(PACKAGE / "__init__.py", package_files())
        for path in package_files():
            self.assertRegex(path.name, r"^([a-z][a-z0-9_]*|__init__)\.py$")
            self.assertTrue(path.stem == "__init__" or not hasattr(builtins, path.stem), path.name)

    def test_signs_and_sizes(self):
        for path in package_files():
            rows = path.read_text(encoding="ascii").split("\n")
            self.assertLessEqual(len(rows), 401, path.name)
            for number, row in enumerate(rows, start=1):
                self.assertRegex(row, r"^[ -~]{0,120}$", f"{path.name}:{number}")
                self.assertIsNone(BANNED_WORDS.search(row), f"{path.name}:{number}")

    def test_functions_are_small_and_plain(self):
        for where, node in walked():
            if isinstance(node, ast.FunctionDef):
                self.assertLessEqual(node.end_lineno - node.lineno + 1, 40, where)
                self.assertEqual((node.decorator_list, node.args.vararg, node.args.kwarg), ([], None, None), where)
                self.assertEqual((node.args.kwonlyargs, node.args.posonlyargs), ([], []), where)

    def test_only_allowed_statements_and_expressions(self):
        for where, node in walked():
            self.assertIn(node.__class__.__name__, ALLOWED_NODES, where)
            if isinstance(node, (ast.For, ast.While)):
                self.assertEqual(node.orelse, [], where)
            if isinstance(node, ast.Try):
                self.assertEqual(node.finalbody, [], where)
            if isinstance(node, ast.Constant):
                self.assertIsInstance(node.value, (int, str, type(None)), where)
                self.assertNotIn("%", str(node.value), where)

    def test_expressions_by_themselves_are_calls(self):
        for path, tree in parsed():
            inner = [node for node in ast.walk(tree) if isinstance(node, ast.Expr) and node is not tree.body[0]]
            for node in inner:
                self.assertIsInstance(node.value, ast.Call, f"{path.name}:{node.lineno}")

    def test_imports(self):
        for path, tree in parsed():
            for node in ast.walk(tree):
                if isinstance(node, ast.ImportFrom):
                    self.assertEqual(node.level, 0, path.name)
                    self.assertIn(node, tree.body, path.name)
                    self.assertRegex(node.module, r"^heapsafe\.", path.name)
                    self.assertNotIn("*", [name.name for name in node.names], path.name)

    def test_names(self):
        for where, node in walked():
            for name in own_names(node):
                self.assertNotIn(name, BANNED_NAMES, where)
                if name not in ALLOWED_DUNDERS:
                    self.assertFalse(name.startswith("_"), f"{where} {name}")

    def test_names_of_pythons_own(self):
        for where, node in walked():
            if isinstance(node, ast.Name) and hasattr(builtins, node.id):
                self.assertIn(node.id, ALLOWED_BUILTINS, where)
                self.assertIsInstance(node.ctx, ast.Load, where)
            if isinstance(node, ast.arg):
                self.assertFalse(hasattr(builtins, node.arg), where)

    def test_is_stands_beside_none_and_truths_alone(self):
        for where, node in walked():
            if isinstance(node, ast.Compare) and isinstance(node.ops[0], (ast.Is, ast.IsNot)):
                self.assertIsInstance(node.comparators[0], ast.Constant, where)
                self.assertIn(repr(node.comparators[0].value), ("None", "True", "False"), where)

    def test_no_name_is_a_method_and_a_value(self):
        methods, values = set(), set()
        for where, node in walked():
            if isinstance(node, ast.ClassDef):
                methods.update(part.name for part in node.body if isinstance(part, ast.FunctionDef))
            if isinstance(node, ast.Attribute) and isinstance(node.ctx, ast.Store):
                values.add(node.attr)
        self.assertEqual(methods & values, set())


class TheNarrowerRules(unittest.TestCase):
    def test_each_name_is_bound_once_at_a_files_top(self):
        for path, tree in parsed():
            names = bound_at_top(tree)
            self.assertEqual(len(names), len(set(names)), path.name)

    def test_what_stands_at_a_files_top(self):
        for path, tree in parsed():
            for node in tree.body[1:]:
                self.assertIsInstance(node, (ast.ImportFrom, ast.Assign, ast.FunctionDef, ast.ClassDef), path.name)
                if isinstance(node, ast.Assign):
                    inner = [part for part in ast.walk(node.value) if part is not node.value]
                    self.assertFalse([part for part in inner if isinstance(part, (ast.List, ast.Dict))], path.name)
                    self.assertFalse([part for part in ast.walk(node.value) if isinstance(part, ast.Call)], path.name)

    def test_classes_stand_at_the_top_and_have_methods_alone(self):
        for path, tree in parsed():
            for node in defs_in(tree, ast.ClassDef):
                self.assertIn(node, tree.body, path.name)
                self.assertLessEqual(len(node.bases), 1, path.name)
                self.assertEqual((node.decorator_list, node.keywords), ([], []), path.name)
                names = [part.name for part in node.body if isinstance(part, ast.FunctionDef)]
                self.assertEqual(len(names), len(set(names)), f"{path.name} {node.name}")
                for part in node.body:
                    self.assertIsInstance(part, (ast.FunctionDef, ast.Pass), f"{path.name} {node.name}")

    def test_locals_hide_no_import_and_no_class(self):
        for path, tree in parsed():
            taken = {name for module, name in imports_of(tree)} | {node.name for node in defs_in(tree, ast.ClassDef)}
            for node in defs_in(tree, ast.FunctionDef):
                bound = {part.arg for part in ast.walk(node) if isinstance(part, ast.arg)}
                bound |= {part.id for part in ast.walk(node)
                          if isinstance(part, ast.Name) and isinstance(part.ctx, ast.Store)}
                self.assertEqual(bound & taken, set(), f"{path.name}:{node.lineno}")

    def test_imports_come_from_the_file_that_defines_the_name(self):
        trees = {f"heapsafe.{path.stem}": tree for path, tree in parsed()}
        for path, tree in parsed():
            for module, name in imports_of(tree):
                defined = set(bound_at_top(trees[module])) - {taken for other, taken in imports_of(trees[module])}
                self.assertIn(name, defined, path.name)

    def test_no_two_files_draw_from_one_another(self):
        drawn = {f"heapsafe.{path.stem}": {module for module, name in imports_of(tree)} for path, tree in parsed()}
        while drawn:
            free = [name for name in drawn if not drawn[name] & set(drawn)]
            self.assertTrue(free, drawn)
            drawn = {name: drawn[name] for name in drawn if name not in free}

    def test_no_annotation_and_no_second_target(self):
        for where, node in walked():
            if isinstance(node, ast.arg):
                self.assertIsNone(node.annotation, where)
            if isinstance(node, ast.FunctionDef):
                self.assertIsNone(node.returns, where)
            if isinstance(node, ast.Assign):
                self.assertEqual(len(node.targets), 1, where)
                self.assertNotIsInstance(node.targets[0], (ast.Tuple, ast.List), where)

    def test_comprehensions_and_texts(self):
        for where, node in walked():
            if isinstance(node, ast.ListComp):
                self.assertEqual(len(node.generators), 1, where)
                self.assertLessEqual(len(node.generators[0].ifs), 1, where)
            if isinstance(node, ast.FormattedValue):
                self.assertIsInstance(node.value, ast.Name, where)
                self.assertIsNone(node.format_spec, where)

    def test_errors_are_raised_and_taken_by_name(self):
        for where, node in walked():
            if isinstance(node, ast.Raise):
                self.assertIn(called_name(node.exc), own_classes(), where)
            if isinstance(node, ast.ExceptHandler):
                self.assertIn(node.type.id, own_classes() | {"KeyError"}, where)

    def test_keywords_of_pythons_own(self):
        for where, node in walked():
            if isinstance(node, ast.Call):
                for word in node.keywords:
                    name = called_name(node)
                    own = name not in ALLOWED_BUILTINS and name not in LISTED_METHODS
                    self.assertTrue(own or word.arg in KEYWORDS.get(name, ()), where)

    def test_walked_on_the_spot(self):
        for path, tree in parsed():
            parents = with_parents(tree)
            for node in defs_in(tree, ast.Call):
                above = parents[node]
                if called_name(node) in WALKED:
                    is_walked = isinstance(above, (ast.For, ast.comprehension)) and above.iter is node
                    is_first = called_name(above) in WALKERS and above.args and above.args[0] is node
                    self.assertTrue(is_walked or is_first, f"{path.name}:{node.lineno}")

    def test_sets_are_not_kept(self):
        for path, tree in parsed():
            parents = with_parents(tree)
            for node in defs_in(tree, ast.Call):
                if called_name(node) in ("set", "frozenset"):
                    above = parents[node]
                    while isinstance(above, ast.BinOp):
                        above = parents[above]
                    good = isinstance(above, ast.Compare) or called_name(above) in ("sorted", "len")
                    self.assertTrue(good, f"{path.name}:{node.lineno}")

    def test_pythons_own_are_called_not_kept(self):
        for path, tree in parsed():
            parents = with_parents(tree)
            for node in defs_in(tree, ast.Name):
                if node.id in CALLED_ALONE and not node.id.endswith(("Error", "Exception")):
                    above = parents[node]
                    self.assertTrue(isinstance(above, ast.Call) and above.func is node, f"{path.name}:{node.lineno}")

    def test_classes_are_not_handed_on(self):
        for path, tree in parsed():
            parents = with_parents(tree)
            for node in defs_in(tree, ast.Name):
                if node.id in own_classes():
                    above = parents[node]
                    called = isinstance(above, ast.Call) and above.func is node
                    base = isinstance(above, (ast.ClassDef, ast.ExceptHandler))
                    init = isinstance(above, ast.Attribute) and above.attr == "__init__"
                    asked = called_name(above) == "isinstance"
                    self.assertTrue(called or base or init or asked, f"{path.name}:{node.lineno}")

    def test_methods_that_are_called(self):
        known = own_methods() | LISTED_METHODS
        for where, node in walked():
            if isinstance(node, ast.Call) and isinstance(node.func, ast.Attribute):
                self.assertIn(node.func.attr, known, where)

    def test_methods_are_called_where_they_stand(self):
        for path, tree in parsed():
            parents = with_parents(tree)
            for node in defs_in(tree, ast.Attribute):
                if node.attr in own_methods() | LISTED_METHODS:
                    above = parents[node]
                    self.assertTrue(isinstance(above, ast.Call) and above.func is node, f"{path.name}:{node.lineno}")

    def test_names_of_own_methods_and_values(self):
        pythons = {name for kind in (str, int, list, dict, set, bytes, tuple, frozenset) for name in dir(kind)}
        self.assertEqual(own_methods() & (pythons - LISTED_METHODS - ALLOWED_DUNDERS - {"add", "discard"}), set())
        self.assertEqual(own_values() & (pythons | {"args"}), set())

    def test_a_files_own_lists_and_dicts_are_only_read(self):
        for path, tree in parsed():
            parents = with_parents(tree)
            kept = [node.targets[0].id for node in tree.body if isinstance(node, ast.Assign)
                    and isinstance(node.value, (ast.List, ast.Dict))]
            for node in defs_in(tree, ast.Name):
                if node.id in kept and isinstance(node.ctx, ast.Load):
                    above = parents[node]
                    read = isinstance(above, ast.Subscript) and isinstance(above.ctx, ast.Load)
                    asked = isinstance(above, ast.Attribute) and above.attr in ("get", "items", "keys", "values")
                    self.assertTrue(read or asked or isinstance(above, ast.Compare), f"{path.name}:{node.lineno}")

    def test_pairs_of_names_and_powers(self):
        for where, node in walked():
            if isinstance(node, ast.BinOp) and isinstance(node.op, ast.Pow):
                self.assertIsInstance(node.right, ast.Constant, where)
            self.assertNotIsInstance(node, ast.Set, where)


if __name__ == "__main__":
    unittest.main()

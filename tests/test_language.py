"""Checks those rules of the language of the package that a look at its syntax can tell."""

import ast
import builtins
import re
import unittest
from pathlib import Path

PACKAGE = Path(__file__).resolve().parent.parent / "dearestshelf"
LIBRARY = {"math": {"gcd", "lcm", "isqrt", "comb", "perm", "factorial"}}
BUILTINS = set(
    "len range enumerate zip min max sum abs sorted reversed int str bool list tuple dict set isinstance ord repr "
    "any all divmod iter next super property staticmethod classmethod NotImplemented ValueError TypeError KeyError "
    "IndexError LookupError ZeroDivisionError".split()
)
METHODS = set(
    "init eq repr str len enter exit call iter lt le gt ge ne add sub mul floordiv mod pow and or xor lshift rshift "
    "radd rsub rmul rfloordiv rmod rand ror rxor rlshift rrshift iadd isub imul ifloordiv imod ipow iand ior ixor "
    "ilshift irshift neg pos invert abs bool contains getitem setitem".split()
)
BARRED = set(
    "register mro elements open input law version_info with_traceback add_note attrgetter breakpoint builtins compile "
    "copyright credits delattr dir eval exec exit gc globals help id importlib license locals methodcaller os quit "
    "sys type vars typing typing_extensions enum Enum IntEnum StrEnum Flag IntFlag Generic Protocol ABC ABCMeta "
    "namedtuple NamedTuple TypedDict TYPE_CHECKING abstractmethod dataclass overload contextmanager".split()
)
UNUSED_SYNTAX = (
    ast.Global, ast.AsyncFunctionDef, ast.AsyncFor, ast.AsyncWith, ast.Await, ast.Import, ast.Div, ast.MatMult,
    # A class has its own +=, beside which the language allows the sign in few places.
    ast.AugAssign, ast.AnnAssign, ast.NamedExpr, ast.Nonlocal, ast.Lambda, ast.GeneratorExp, ast.With,
)  # fmt: skip
MODULE_LEVEL = (ast.ImportFrom, ast.FunctionDef, ast.ClassDef, ast.Assign, ast.Expr)


def files():
    return [path for path in sorted(PACKAGE.rglob("*")) if "__pycache__" not in path.parts and path.is_file()]


def trees():
    return [(path, ast.parse(path.read_text())) for path in files()]


def nodes(kinds):
    for path, tree in trees():
        for node in ast.walk(tree):
            if isinstance(node, kinds):
                yield f"{path.name}:{getattr(node, 'lineno', 0)}", node


def bound_names(tree):
    """Return the names that a file binds: imports, classes, and all others."""
    imports, classes, others = set(), set(), set()
    for node in ast.walk(tree):
        if isinstance(node, ast.ImportFrom):
            imports.update(alias.asname or alias.name for alias in node.names)
        elif isinstance(node, ast.ClassDef):
            classes.add(node.name)
        elif isinstance(node, ast.arg):
            others.add(node.arg)
        elif isinstance(node, ast.Name) and not isinstance(node.ctx, ast.Load):
            others.add(node.id)
    return imports, classes, others


def defined_at_top(tree):
    names = {node.name for node in tree.body if isinstance(node, (ast.FunctionDef, ast.ClassDef))}
    return names.union(
        target.id for node in tree.body if isinstance(node, ast.Assign) for target in node.targets
    )


class LanguageTest(unittest.TestCase):
    def test_files_lines_and_characters(self):
        for path in files():
            self.assertTrue(re.fullmatch(r"[a-z_][a-z0-9_]*\.py", path.name), path)
            text = path.read_bytes().decode("ascii")
            self.assertTrue(all(sign == "\n" or " " <= sign <= "~" for sign in text), path)
            rows = text.split("\n")
            self.assertLessEqual(len(rows), 399, path)
            self.assertLessEqual(max(len(row) for row in rows), 120, path)

    def test_functions_are_short(self):
        for place, node in nodes(ast.FunctionDef):
            self.assertLessEqual(node.end_lineno - node.lineno + 1, 40, place)

    def test_module_level(self):
        for path, tree in trees():
            for at, node in enumerate(tree.body):
                self.assertIsInstance(node, MODULE_LEVEL, path)
                if isinstance(node, ast.Expr):
                    self.assertEqual(at, 0, path)
                    self.assertIsInstance(node.value.value, str)

    def test_imports(self):
        tops = {path.stem: defined_at_top(tree) for path, tree in trees()}
        for place, node in nodes(ast.ImportFrom):
            self.assertEqual(node.level, 0, place)
            self.assertTrue(all(alias.asname is None for alias in node.names), place)
            names = {alias.name for alias in node.names}
            if node.module in LIBRARY:
                self.assertLessEqual(names, LIBRARY[node.module], place)
            else:
                package, stem = node.module.split(".")
                self.assertEqual(package, "dearestshelf", place)
                self.assertLessEqual(names, tops[stem], place)

    def test_syntax_that_is_not_used(self):
        for place, node in nodes(UNUSED_SYNTAX):
            self.fail(f"{place}: {type(node).__name__}")
        for place, node in nodes(ast.Constant):
            self.assertNotIsInstance(node.value, (float, complex), place)
            if isinstance(node.value, str):
                self.assertNotIn("%", node.value, place)
        for place, node in nodes(ast.BinOp):
            if isinstance(node.op, ast.Pow):
                self.assertIsInstance(node.right, ast.Constant, place)
        for place, node in nodes(ast.Compare):
            if any(isinstance(op, (ast.Is, ast.IsNot)) for op in node.ops):
                self.assertIn(node.comparators[0].value, (None, True, False), place)

    def test_decorators_and_double_underscores(self):
        for place, node in nodes(ast.ClassDef):
            self.assertEqual(node.decorator_list, [], place)
        for place, node in nodes(ast.FunctionDef):
            for decorator in node.decorator_list:
                words = ast.unparse(decorator)
                self.assertRegex(words, r"^(property|staticmethod|classmethod|\w+\.setter)$", place)
            if node.name.startswith("__"):
                self.assertIn(node.name.strip("_"), METHODS, place)

    def test_names(self):
        for path, tree in trees():
            imports, classes, others = bound_names(tree)
            self.assertEqual(imports & (classes | others), set(), path)
            self.assertEqual(classes & others, set(), path)
            for name in imports | classes | others:
                self.assertNotIn(name, BARRED, path)
                self.assertFalse(hasattr(builtins, name), f"{path.name}: {name}")
        for place, node in nodes(ast.FunctionDef):
            self.assertNotIn(node.name, BARRED | BUILTINS, place)
        for place, node in nodes(ast.Name):
            if hasattr(builtins, node.id):
                self.assertIn(node.id, BUILTINS, place)

    def test_errors_are_made_where_they_are_raised(self):
        for place, node in nodes(ast.Raise):
            self.assertIsInstance(node.exc, ast.Call, place)
            self.assertIsInstance(node.exc.func, ast.Name, place)

    def test_what_builtins_take_beside_classes_that_compare(self):
        for place, node in nodes(ast.Call):
            if not isinstance(node.func, ast.Name):
                continue
            if node.func.id in ("any", "all", "min", "max", "sum", "sorted"):
                self.assertNotIsInstance(node.args[0], ast.GeneratorExp, place)
            if node.func.id in ("min", "max", "sorted"):
                words = [ast.unparse(part) for part in [*node.args, *[word.value for word in node.keywords]]]
                self.assertRegex(" ".join(words), r"\b(int|len)\b", f"{place}: plain numbers alone")

    def test_what_a_read_property_or_an_operator_changes(self):
        for place, node in nodes(ast.ClassDef):
            for method in node.body:
                if not isinstance(method, ast.FunctionDef) or method.name in ("__init__", "__iadd__", "__setitem__"):
                    continue
                decorators = [ast.unparse(decorator) for decorator in method.decorator_list]
                if method.name.startswith("__") and method.name != "__call__" or decorators == ["property"]:
                    for part in ast.walk(method):
                        stored = isinstance(part, (ast.Attribute, ast.Subscript)) and not isinstance(part.ctx, ast.Load)
                        self.assertFalse(stored, f"{place}: {method.name}")

    def test_iterated_objects(self):
        for place, node in nodes(ast.FunctionDef):
            if node.name == "__iter__":
                self.assertRegex(ast.unparse(node), r"def __iter__\(self\):\n    return iter\(self\.\w+\)$", place)
            if node.name == "__len__":
                self.assertRegex(ast.unparse(node), r"def __len__\(self\):\n    return len\(self\.\w+\)$", place)

    def test_no_name_is_a_method_and_an_attribute(self):
        parts = [part for _, node in nodes(ast.ClassDef) for part in node.body]
        methods = {part.name for part in parts if isinstance(part, ast.FunctionDef)}
        stored = {node.attr for _, node in nodes(ast.Attribute) if isinstance(node.ctx, ast.Store)}
        self.assertEqual(methods & stored, set())
        self.assertNotIn("keys", methods | stored)

    def test_errors_that_are_caught(self):
        for place, node in nodes(ast.ExceptHandler):
            self.assertEqual(ast.unparse(node.type), "ShelfError", place)

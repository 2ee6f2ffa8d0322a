"""A guard for the form of the package's files: the rules of the language that a plain look can tell."""

import ast
import builtins
import pathlib
import re
import unittest

PACKAGE = pathlib.Path(__file__).resolve().parent.parent / "treewatch"

NODES = {
    ast.Module, ast.Expr, ast.ImportFrom, ast.alias, ast.FunctionDef, ast.arguments, ast.arg, ast.Lambda,
    ast.ClassDef, ast.Assign, ast.AugAssign, ast.If, ast.While, ast.For, ast.Return, ast.Break, ast.Continue,
    ast.Pass, ast.Raise, ast.Try, ast.ExceptHandler, ast.Constant, ast.List, ast.Tuple, ast.Dict, ast.BinOp,
    ast.UnaryOp, ast.BoolOp, ast.Compare, ast.IfExp, ast.Call, ast.keyword, ast.Attribute, ast.Subscript,
    ast.Slice, ast.ListComp, ast.comprehension, ast.JoinedStr, ast.FormattedValue, ast.Name,
}
BASES_OF_NODES = (ast.operator, ast.unaryop, ast.boolop, ast.cmpop, ast.expr_context)

OWN_NAMES = set("""
    len range enumerate zip min max sum abs sorted reversed int str bool list tuple dict set frozenset isinstance ord
    repr any all divmod Exception ValueError TypeError KeyError IndexError LookupError ZeroDivisionError
    ArithmeticError OverflowError RuntimeError NotImplementedError AttributeError StopIteration
""".split())

METHODS = set("""
    append clear copy count endswith extend find get index insert isalnum isalpha isdigit islower isspace isupper items
    join keys ljust lower lstrip partition pop remove replace reverse rfind rjust rpartition rsplit rstrip setdefault
    split splitlines startswith strip update upper values zfill bit_length
""".split())
TWO_UNDERSCORES = {"__init__", "__eq__", "__repr__", "__str__", "__len__"}

WORDS = re.compile(
    r"\b(type|typing|typing_extensions|enum|Enum|IntEnum|StrEnum|Flag|IntFlag|Generic|Protocol|ABC|ABCMeta"
    r"|namedtuple|NamedTuple|TypedDict|TYPE_CHECKING|abstractmethod)\b|dataclass|overload|contextmanager"
)


class Form(unittest.TestCase):
    def files(self):
        for path in sorted(PACKAGE.rglob("*")):
            if "__pycache__" not in path.parts:
                yield path, path.read_text(encoding="utf-8")

    def nodes(self):
        for path, text in self.files():
            for node in ast.walk(ast.parse(text)):
                yield f"{path.name}:{getattr(node, 'lineno', 0)}", node

    def test_files(self):
        names = [path.name for path, _ in self.files()]
        self.assertIn("__init__.py", names)
        for name in names:
            self.assertRegex(name, r"^[a-z0-9_]+\.py$")

    def test_signs_and_sizes(self):
        for path, text in self.files():
            rows = text.split("\n")
            self.assertLessEqual(len(rows), 401)
            for count, row in enumerate(rows, start=1):
                self.assertRegex(row, r"\A[ -~]{0,120}\Z", f"{path.name}:{count}")
                self.assertIsNone(WORDS.search(row), f"{path.name}:{count}")

    def test_statements_and_expressions(self):
        for where, node in self.nodes():
            self.assertTrue(type(node) in NODES or isinstance(node, BASES_OF_NODES), (where, node))
            if isinstance(node, ast.FunctionDef):
                self.assertLessEqual(node.end_lineno - node.lineno + 1, 40, where)
                self.assertEqual(node.decorator_list, [], where)
            if isinstance(node, ast.Assign):
                self.assertEqual(len(node.targets), 1, where)
            if isinstance(node, (ast.For, ast.While)):
                self.assertEqual(node.orelse, [], where)
            if isinstance(node, ast.ListComp):
                self.assertEqual(len(node.generators), 1, where)
                self.assertLessEqual(len(node.generators[0].ifs), 1, where)
            if isinstance(node, ast.Constant):
                self.assertIn(type(node.value), (int, str, bool, type(None)), where)
            if isinstance(node, ast.Compare) and any(isinstance(op, (ast.Is, ast.IsNot)) for op in node.ops):
                self.assertIn(ast.unparse(node.comparators[-1]), ("None", "True", "False"), where)
            self.assertFalse(isinstance(node, (ast.Div, ast.MatMult)), where)

    def test_names(self):
        for where, node in self.nodes():
            if isinstance(node, ast.Name):
                self.assertFalse(node.id.startswith("_"), where)
                if hasattr(builtins, node.id):
                    self.assertIn(node.id, OWN_NAMES, where)
                    self.assertIsInstance(node.ctx, ast.Load, where)
            if isinstance(node, ast.arg):
                self.assertFalse(hasattr(builtins, node.arg), where)

    def test_imports(self):
        for where, node in self.nodes():
            if isinstance(node, ast.ImportFrom):
                self.assertEqual(node.level, 0, where)
                self.assertTrue(node.module.startswith("treewatch."), where)
                self.assertTrue((PACKAGE.parent / (node.module.replace(".", "/") + ".py")).is_file(), where)
                self.assertNotIn("*", [alias.name for alias in node.names], where)

    def test_functions_and_their_locals(self):
        for path, text in self.files():
            top = ast.parse(text).body
            own = {node.name for node in top if isinstance(node, ast.ClassDef)}
            own |= {alias.name for node in top if isinstance(node, ast.ImportFrom) for alias in node.names}
            for node in ast.walk(ast.parse(text)):
                where = f"{path.name}:{getattr(node, 'lineno', 0)}"
                if isinstance(node, ast.arguments):
                    self.assertEqual((node.vararg, node.kwarg, node.kwonlyargs), (None, None, []), where)
                if isinstance(node, ast.arg):
                    self.assertIsNone(node.annotation, where)
                    self.assertNotIn(node.arg, own, where)
                if isinstance(node, ast.Name) and isinstance(node.ctx, ast.Store):
                    self.assertNotIn(node.id, own, where)

    def test_classes(self):
        methods, values = set(), set()
        for where, node in self.nodes():
            if isinstance(node, ast.ClassDef):
                self.assertLessEqual(len(node.bases), 1, where)
                for part in node.body:
                    self.assertIsInstance(part, (ast.FunctionDef, ast.Pass), where)
                methods |= {part.name for part in node.body if isinstance(part, ast.FunctionDef)}
            if isinstance(node, ast.Attribute) and isinstance(node.ctx, ast.Store):
                values.add(node.attr)
        self.assertFalse(methods & values)
        self.assertFalse({name for name in values if name.startswith("_")})
        self.assertLessEqual({name for name in methods if name.startswith("_")}, TWO_UNDERSCORES)
        for where, node in self.nodes():
            if isinstance(node, ast.Attribute):
                self.assertIn(node.attr, METHODS | methods | values, where)

    def test_sets_are_not_kept(self):
        for where, node in self.nodes():
            if isinstance(node, ast.Assign):
                self.assertNotRegex(ast.unparse(node.value), r"^(frozen)?set\(", where)
            if isinstance(node, (ast.For, ast.comprehension)):
                self.assertNotRegex(ast.unparse(node.iter), r"^(frozen)?set\(", where)

"""A guard for the form of the package's files: the rules of the language that a plain look can tell."""

import ast
import builtins
import pathlib
import re
import unittest

PACKAGE = pathlib.Path(__file__).resolve().parent.parent / "treewatch"

NODES = {
    ast.Module, ast.Expr, ast.ImportFrom, ast.alias, ast.FunctionDef, ast.arguments, ast.arg, ast.Lambda,
    ast.ClassDef, ast.Assign, ast.AugAssign, ast.If, ast.While, ast.For, ast.Return, ast.Break, ast.Continue,
    ast.Pass, ast.Raise, ast.Try, ast.ExceptHandler, ast.Constant, ast.List, ast.Tuple, ast.Dict, ast.BinOp,
    ast.UnaryOp, ast.BoolOp, ast.Compare, ast.IfExp, ast.Call, ast.keyword, ast.Attribute, ast.Subscript,
    ast.Slice, ast.ListComp, ast.comprehension, ast.JoinedStr, ast.FormattedValue, ast.Name,
}
BASES_OF_NODES = (ast.operator, ast.unaryop, ast.boolop, ast.cmpop, ast.expr_context)

OWN_NAMES = set("""
    len range enumerate zip min max sum abs sorted reversed int str bool list tuple dict set frozenset isinstance ord
    repr any all divmod Exception ValueError TypeError KeyError IndexError LookupError ZeroDivisionError
    ArithmeticError OverflowError RuntimeError NotImplementedError AttributeError StopIteration
""".split())

METHODS = set("""
    append clear copy count endswith extend find get index insert isalnum isalpha isdigit islower isspace isupper items
    join keys ljust lower lstrip partition pop remove replace reverse rfind rjust rpartition rsplit rstrip setdefault
    split splitlines startswith strip update upper values zfill bit_length
""".split())
TWO_UNDERSCORES = {"__init__", "__eq__", "__repr__", "__str__", "__len__"}

WALKED_AT_ONCE = {"zip", "enumerate", "reversed", "range", "items", "keys", "values"}
WALKERS = {"list", "tuple", "dict", "sorted", "sum", "any", "all", "enumerate", "zip", "min", "max", "join"}
KEYWORDS = {
    "sorted": {"key", "reverse"}, "min": {"key", "default"}, "max": {"key", "default"}, "sum": {"start"},
    "enumerate": {"start"}, "zip": {"strict"},
}

WORDS = re.compile(
    r"\b(type|typing|typing_extensions|enum|Enum|IntEnum|StrEnum|Flag|IntFlag|Generic|Protocol|ABC|ABCMeta"
    r"|namedtuple|NamedTuple|TypedDict|TYPE_CHECKING|abstractmethod)\b|dataclass|overload|contextmanager"
)


def called_name(node):
    if isinstance(node, ast.Call):
        return getattr(node.func, "id", getattr(node.func, "attr", ""))
    return ""


class Form(unittest.TestCase):
    def files(self):
        for path in sorted(PACKAGE.rglob("*")):
            if "__pycache__" not in path.parts:
                yield path, path.read_text(encoding="utf-8")

    def nodes(self):
        for path, text in self.files():
            for node in ast.walk(ast.parse(text)):
                yield f"{path.name}:{getattr(node, 'lineno', 0)}", node

    def test_files(self):
        names = [path.name for path, _ in self.files()]
        self.assertIn("__init__.py", names)
        for name in names:
            self.assertRegex(name, r"^[a-z0-9_]+\.py$")

    def test_signs_and_sizes(self):
        for path, text in self.files():
            rows = text.split("\n")
            self.assertLessEqual(len(rows), 401)
            for count, row in enumerate(rows, start=1):
                self.assertRegex(row, r"\A[ -~]{0,120}\Z", f"{path.name}:{count}")
                self.assertIsNone(WORDS.search(row), f"{path.name}:{count}")

    def test_statements_and_expressions(self):
        for where, node in self.nodes():
            self.assertTrue(type(node) in NODES or isinstance(node, BASES_OF_NODES), (where, node))
            if isinstance(node, ast.FunctionDef):
                self.assertLessEqual(node.end_lineno - node.lineno + 1, 40, where)
                self.assertEqual(node.decorator_list, [], where)
            if isinstance(node, ast.Assign):
                self.assertEqual(len(node.targets), 1, where)
            if isinstance(node, (ast.For, ast.While)):
                self.assertEqual(node.orelse, [], where)
            if isinstance(node, ast.ListComp):
                self.assertEqual(len(node.generators), 1, where)
                self.assertLessEqual(len(node.generators[0].ifs), 1, where)
            if isinstance(node, ast.Constant):
                self.assertIn(type(node.value), (int, str, bool, type(None)), where)
            if isinstance(node, ast.Compare) and any(isinstance(op, (ast.Is, ast.IsNot)) for op in node.ops):
                self.assertIn(ast.unparse(node.comparators[-1]), ("None", "True", "False"), where)
            self.assertFalse(isinstance(node, (ast.Div, ast.MatMult)), where)

    def test_names(self):
        for where, node in self.nodes():
            if isinstance(node, ast.Name):
                self.assertFalse(node.id.startswith("_"), where)
                if hasattr(builtins, node.id):
                    self.assertIn(node.id, OWN_NAMES, where)
                    self.assertIsInstance(node.ctx, ast.Load, where)
            if isinstance(node, ast.arg):
                self.assertFalse(hasattr(builtins, node.arg), where)

    def test_imports(self):
        for where, node in self.nodes():
            if isinstance(node, ast.ImportFrom):
                self.assertEqual(node.level, 0, where)
                self.assertTrue(node.module.startswith("treewatch."), where)
                self.assertTrue((PACKAGE.parent / (node.module.replace(".", "/") + ".py")).is_file(), where)
                self.assertNotIn("*", [alias.name for alias in node.names], where)

    def test_functions_and_their_locals(self):
        for path, text in self.files():
            top = ast.parse(text).body
            own = {node.name for node in top if isinstance(node, ast.ClassDef)}
            own |= {alias.name for node in top if isinstance(node, ast.ImportFrom) for alias in node.names}
            for node in ast.walk(ast.parse(text)):
                where = f"{path.name}:{getattr(node, 'lineno', 0)}"
                if isinstance(node, ast.arguments):
                    self.assertEqual((node.vararg, node.kwarg, node.kwonlyargs), (None, None, []), where)
                if isinstance(node, ast.arg):
                    self.assertIsNone(node.annotation, where)
                    self.assertNotIn(node.arg, own, where)
                if isinstance(node, ast.Name) and isinstance(node.ctx, ast.Store):
                    self.assertNotIn(node.id, own, where)

    def test_classes(self):
        methods, values = set(), set()
        for where, node in self.nodes():
            if isinstance(node, ast.ClassDef):
                self.assertLessEqual(len(node.bases), 1, where)
                for part in node.body:
                    self.assertIsInstance(part, (ast.FunctionDef, ast.Pass), where)
                methods |= {part.name for part in node.body if isinstance(part, ast.FunctionDef)}
            if isinstance(node, ast.Attribute) and isinstance(node.ctx, ast.Store):
                values.add(node.attr)
        self.assertFalse(methods & values)
        self.assertFalse({name for name in values if name.startswith("_")})
        self.assertLessEqual({name for name in methods if name.startswith("_")}, TWO_UNDERSCORES)
        for where, node in self.nodes():
            if isinstance(node, ast.Attribute):
                self.assertIn(node.attr, METHODS | methods | values, where)

    def test_sets_are_not_kept(self):
        for where, node in self.nodes():
            if isinstance(node, ast.Assign):
                self.assertNotRegex(ast.unparse(node.value), r"^(frozen)?set\(", where)
            if isinstance(node, (ast.For, ast.comprehension)):
                self.assertNotRegex(ast.unparse(node.iter), r"^(frozen)?set\(", where)

    def test_tops_of_files(self):
        for path, text in self.files():
            bound = []
            for node in ast.parse(text).body:
                where = f"{path.name}:{node.lineno}"
                if isinstance(node, ast.Expr):
                    self.assertIsInstance(node.value, ast.Constant, where)
                elif isinstance(node, ast.Assign):
                    self.assertIsInstance(node.value, (ast.Constant, ast.Tuple), where)
                    bound.append(node.targets[0].id)
                elif isinstance(node, ast.ImportFrom):
                    bound.extend(alias.name for alias in node.names)
                    self.assertTrue(all(alias.asname is None for alias in node.names), where)
                else:
                    self.assertIsInstance(node, (ast.FunctionDef, ast.ClassDef), where)
                    bound.append(node.name)
            self.assertEqual(len(bound), len(set(bound)), path.name)

    def test_names_come_from_the_file_that_defines_them_and_are_used(self):
        for path, text in self.files():
            used = {node.id for node in ast.walk(ast.parse(text)) if isinstance(node, ast.Name)}
            for node in ast.parse(text).body:
                if isinstance(node, ast.ImportFrom):
                    source = (PACKAGE.parent / (node.module.replace(".", "/") + ".py")).read_text(encoding="utf-8")
                    for alias in node.names:
                        self.assertIn(alias.name, used, path.name)
                        self.assertRegex(source, rf"(?m)^((def|class) {alias.name}\b|{alias.name} =)", path.name)

    def test_no_two_files_draw_from_one_another(self):
        drawn = {}
        for path, text in self.files():
            drawn["treewatch." + path.stem] = {
                node.module for node in ast.parse(text).body if isinstance(node, ast.ImportFrom)
            }
        while drawn:
            free = [name for name, sources in drawn.items() if not sources & set(drawn)]
            self.assertTrue(free, drawn)
            for name in free:
                drawn.pop(name)

    def test_walked_at_once(self):
        for path, text in self.files():
            walked = []
            for node in ast.walk(ast.parse(text)):
                if isinstance(node, (ast.For, ast.comprehension)):
                    walked.append(node.iter)
                if called_name(node) in WALKERS:
                    walked.extend(node.args)
            for node in ast.walk(ast.parse(text)):
                if called_name(node) in WALKED_AT_ONCE:
                    self.assertIn(ast.dump(node), [ast.dump(one) for one in walked], f"{path.name}:{node.lineno}")

    def test_calls_and_errors(self):
        own = {node.name for _, node in self.nodes() if isinstance(node, ast.ClassDef)}
        for where, node in self.nodes():
            if isinstance(node, ast.Call):
                words = {keyword.arg for keyword in node.keywords}
                self.assertLessEqual(words, KEYWORDS.get(called_name(node), set()), where)
            if isinstance(node, ast.ExceptHandler):
                self.assertIn(ast.unparse(node.type), own | {"KeyError"}, where)
            if isinstance(node, ast.Raise):
                self.assertIn(called_name(node.exc), own, where)
                self.assertRegex(ast.unparse(node.cause) if node.cause else "e", r"^(e|None)$", where)

    def test_texts_and_their_signs(self):
        for path, text in self.files():
            self.assertNotIn("%", re.sub(r" % ", "", text), path.name)
            self.assertNotRegex(text, r"\\[^nt\\\"']", path.name)
        for where, node in self.nodes():
            if isinstance(node, ast.FormattedValue):
                self.assertIsInstance(node.value, ast.Name, where)
                self.assertIsNone(node.format_spec, where)

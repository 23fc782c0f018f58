"""The rules of form that can be seen in the package's files, as far as they are cheap to look for."""

import ast
import builtins
import pathlib
import unittest

PACKAGE = pathlib.Path(__file__).resolve().parent.parent / "letterlaw"
FILES = sorted(PACKAGE.glob("*.py"))

OWN_NAMES = set(
    "len range enumerate zip min max sum abs sorted reversed int str bool list tuple dict set frozenset isinstance "
    "ord repr any all divmod Exception ValueError TypeError KeyError IndexError LookupError ZeroDivisionError "
    "ArithmeticError OverflowError RuntimeError NotImplementedError AttributeError StopIteration".split()
)
OWN_METHODS = set(
    "append clear copy count endswith extend find get index insert isalnum isalpha isdigit islower isspace isupper "
    "items join keys ljust lower lstrip partition pop remove replace reverse rfind rjust rpartition rsplit rstrip "
    "setdefault split splitlines startswith strip update upper values zfill bit_length".split()
)
DOUBLE = {"__init__", "__eq__", "__repr__", "__str__", "__len__"}
WORDS_OUT = (
    r"\b(type|typing|typing_extensions|enum|Enum|IntEnum|StrEnum|Flag|IntFlag|Generic|Protocol|ABC|ABCMeta"
    r"|namedtuple|NamedTuple|TypedDict|TYPE_CHECKING|abstractmethod)\b|dataclass|overload|contextmanager"
)
NODES = (
    ast.Module, ast.FunctionDef, ast.ClassDef, ast.Return, ast.Assign, ast.AugAssign, ast.For, ast.While, ast.If,
    ast.Raise, ast.Try, ast.ExceptHandler, ast.ImportFrom, ast.alias, ast.Expr, ast.Pass, ast.Break, ast.Continue,
    ast.BoolOp, ast.BinOp, ast.UnaryOp, ast.Lambda, ast.IfExp, ast.Dict, ast.ListComp, ast.comprehension,
    ast.Compare, ast.Call, ast.keyword, ast.FormattedValue, ast.JoinedStr, ast.Constant, ast.Attribute,
    ast.Subscript, ast.Name, ast.List, ast.Tuple, ast.Slice, ast.arguments, ast.arg, ast.expr_context,
    ast.boolop, ast.operator, ast.unaryop, ast.cmpop,
)


def trees():
    return [(path.name, ast.parse(path.read_text("ascii"))) for path in FILES]


def defined(tree):
    return {node.name for node in tree.body if isinstance(node, (ast.FunctionDef, ast.ClassDef))} | {
        node.targets[0].id for node in tree.body if isinstance(node, ast.Assign)
    }


class Form(unittest.TestCase):
    def test_files(self):
        for path in PACKAGE.iterdir():
            if path.name != "__pycache__":
                self.assertRegex(path.name, r"^(__init__|[a-z][a-z0-9_]*)\.py$")
        self.assertIn("__init__.py", [path.name for path in FILES])

    def test_rows(self):
        for path in FILES:
            rows = path.read_bytes().decode("ascii").split("\n")
            self.assertLessEqual(len(rows), 400, path.name)
            for number, row in enumerate(rows, start=1):
                with self.subTest(path.name, row=number):
                    self.assertRegex(row, r"^[ -~]{0,120}$")
                    self.assertNotRegex(row, WORDS_OUT)

    def test_functions_are_small(self):
        for name, tree in trees():
            for node in ast.walk(tree):
                if isinstance(node, ast.FunctionDef):
                    self.assertLessEqual(node.end_lineno - node.lineno + 1, 40, (name, node.name))
                    self.assertEqual(node.decorator_list, [])

    def test_nodes(self):
        for name, tree in trees():
            for node in ast.walk(tree):
                with self.subTest(name, row=getattr(node, "lineno", 0)):
                    self.assertIsInstance(node, NODES)
                    self.assertNotIsInstance(node, (ast.Div, ast.MatMult))
                    if isinstance(node, ast.Constant):
                        self.assertNotIsInstance(node.value, (float, complex, bytes))
                    if isinstance(node, ast.Assign):
                        self.assertEqual(len(node.targets), 1)
                    if isinstance(node, (ast.For, ast.While)):
                        self.assertEqual(node.orelse, [])

    def test_names(self):
        for name, tree in trees():
            for node in ast.walk(tree):
                with self.subTest(name, row=getattr(node, "lineno", 0)):
                    if isinstance(node, ast.Name):
                        self.assertRegex(node.id, r"^[A-Za-z]")
                        if hasattr(builtins, node.id):
                            self.assertIn(node.id, OWN_NAMES)
                            self.assertIsInstance(node.ctx, ast.Load)
                    if isinstance(node, ast.arg):
                        self.assertRegex(node.arg, r"^[A-Za-z]")
                        self.assertFalse(hasattr(builtins, node.arg), node.arg)
                    if isinstance(node, (ast.FunctionDef, ast.ClassDef)) and node.name not in DOUBLE:
                        self.assertRegex(node.name, r"^[A-Za-z]")

    def test_methods(self):
        own = {
            method.name for name, tree in trees() for node in tree.body if isinstance(node, ast.ClassDef)
            for method in node.body if isinstance(method, ast.FunctionDef)
        }
        for name, tree in trees():
            for node in ast.walk(tree):
                if isinstance(node, ast.Call) and isinstance(node.func, ast.Attribute):
                    self.assertIn(node.func.attr, OWN_METHODS | own | {"__init__"}, (name, node.lineno))

    def test_no_name_is_a_method_and_a_value(self):
        methods = set()
        values = set()
        for name, tree in trees():
            for node in ast.walk(tree):
                if isinstance(node, ast.ClassDef):
                    methods |= {part.name for part in node.body if isinstance(part, ast.FunctionDef)}
                if isinstance(node, ast.Attribute) and isinstance(node.ctx, ast.Store):
                    values.add(node.attr)
        self.assertEqual(methods & values, set())

    def test_no_local_is_called_like_a_class_or_an_import(self):
        for name, tree in trees():
            taken = {node.name for node in tree.body if isinstance(node, ast.ClassDef)}
            for node in tree.body:
                if isinstance(node, ast.ImportFrom):
                    taken |= {drawn.asname or drawn.name for drawn in node.names}
            for node in ast.walk(tree):
                with self.subTest(name, row=getattr(node, "lineno", 0)):
                    if isinstance(node, ast.Name) and isinstance(node.ctx, ast.Store):
                        self.assertNotIn(node.id, taken)
                    if isinstance(node, ast.arg):
                        self.assertNotIn(node.arg, taken)

    def test_statements_by_themselves_are_calls(self):
        for name, tree in trees():
            for node in ast.walk(tree):
                if isinstance(node, ast.Expr) and node is not tree.body[0]:
                    self.assertIsInstance(node.value, ast.Call, (name, node.lineno))

    def test_imports(self):
        names = {"letterlaw." + name[:-3]: defined(tree) for name, tree in trees()}
        for name, tree in trees():
            for node in ast.walk(tree):
                if isinstance(node, ast.ImportFrom):
                    with self.subTest(name, row=node.lineno):
                        self.assertIn(node, tree.body)
                        self.assertIn(node.module, names)
                        for drawn in node.names:
                            self.assertIn(drawn.name, names[node.module])

    def test_no_two_files_draw_from_one_another(self):
        drawn = {
            "letterlaw." + name[:-3]: {node.module for node in tree.body if isinstance(node, ast.ImportFrom)}
            for name, tree in trees()
        }
        while drawn:
            free = [name for name in drawn if not drawn[name] & set(drawn)]
            self.assertNotEqual(free, [], drawn)
            for name in free:
                drawn.pop(name)


if __name__ == "__main__":
    unittest.main()

"""The package's own files keep to the part of Python that is allowed (those rules that can be seen plainly)."""

import ast
import builtins
import pathlib
import re
import unittest

PACKAGE = pathlib.Path(__file__).resolve().parent.parent / "twigtable"

STATEMENTS = (
    ast.Assign, ast.AnnAssign, ast.AugAssign, ast.If, ast.While, ast.For, ast.Return, ast.Break, ast.Continue, ast.Pass,
    ast.Raise, ast.Try, ast.Expr, ast.FunctionDef, ast.ClassDef, ast.ImportFrom,
)
EXPRESSIONS = (
    ast.Constant, ast.List, ast.Tuple, ast.Dict, ast.Set, ast.BinOp, ast.UnaryOp, ast.BoolOp, ast.Compare, ast.IfExp,
    ast.Call, ast.Attribute, ast.Subscript, ast.Slice, ast.ListComp, ast.JoinedStr, ast.FormattedValue, ast.Lambda,
    ast.Name,
)
BUILT_IN = """
    len range enumerate zip min max sum abs sorted reversed int str bool list tuple dict set frozenset isinstance ord
    repr any all divmod Exception ValueError TypeError KeyError IndexError LookupError ZeroDivisionError ArithmeticError
    OverflowError RuntimeError NotImplementedError AttributeError StopIteration
""".split()
DUNDERS = ("__init__", "__eq__", "__repr__", "__str__", "__len__")
# Methods that Python's own values have and that are out; so classes of the package have none of that name either.
METHODS_OUT = """
    format format_map mro sort encode decode swapcase casefold capitalize center expandtabs translate maketrans
    isdecimal isnumeric isidentifier isprintable istitle isascii removeprefix removesuffix popitem fromkeys
    intersection union difference symmetric_difference issubset issuperset isdisjoint as_integer_ratio to_bytes
    from_bytes conjugate bit_count with_traceback add_note register elements open input version_info
""".split()
WORDS_OUT = re.compile(
    r"\b(type|typing|typing_extensions|enum|Enum|IntEnum|StrEnum|Flag|IntFlag|Generic|Protocol|ABC|ABCMeta|namedtuple"
    r"|NamedTuple|TypedDict|TYPE_CHECKING|abstractmethod)\b|dataclass|overload|contextmanager"
)


class Language(unittest.TestCase):
    def setUp(self):
        self.files = {path: path.read_text(encoding="utf-8") for path in sorted(PACKAGE.rglob("*.py"))}

    def nodes(self, *kinds):
        for path, text in self.files.items():
            for node in ast.walk(ast.parse(text)):
                if isinstance(node, kinds):
                    yield f"{path.name}:{getattr(node, 'lineno', 0)}", node

    def test_files(self):
        self.assertIn(PACKAGE / "__init__.py", self.files)
        for path in PACKAGE.rglob("*"):
            if "__pycache__" not in path.parts:
                self.assertRegex(path.name, r"^(__init__|[a-z][a-z0-9_]*)\.py$")
                self.assertNotRegex(path.name, r"^(tests?|testing|test_.*|site|conftest|sitecustomize|usercustomize)\.py$")
                self.assertTrue(path.stem == "__init__" or not hasattr(builtins, path.stem), path)

    def test_signs_and_sizes(self):
        for path, text in self.files.items():
            rows = text.split("\n")
            self.assertLessEqual(len(rows), 401, path)
            for number, row in enumerate(rows, 1):
                with self.subTest(f"{path.name}:{number}"):
                    self.assertRegex(row, r"^[ -~]{0,120}$")
                    self.assertNotRegex(row, WORDS_OUT)

    def test_functions(self):
        for place, node in self.nodes(ast.FunctionDef):
            with self.subTest(place):
                self.assertLessEqual(node.end_lineno - node.lineno + 1, 40)
                self.assertFalse(node.decorator_list)
                self.assertFalse(node.args.vararg or node.args.kwarg or node.args.kwonlyargs or node.args.posonlyargs)
                self.assertTrue(node.name in DUNDERS or re.match("^[A-Za-z]", node.name))

    def test_classes(self):
        for place, node in self.nodes(ast.ClassDef):
            with self.subTest(place):
                self.assertFalse(node.decorator_list or node.keywords)
                self.assertLessEqual(len(node.bases), 1)
                self.assertTrue(all(isinstance(row, (ast.FunctionDef, ast.Pass)) for row in node.body))
                methods = [row.name for row in node.body if isinstance(row, ast.FunctionDef)]
                self.assertEqual(len(methods), len(set(methods)))

    def test_no_name_is_a_method_and_a_value(self):
        methods = {
            row.name for place, node in self.nodes(ast.ClassDef) for row in node.body if isinstance(row, ast.FunctionDef)
        }
        values = {node.attr for place, node in self.nodes(ast.Attribute) if isinstance(node.ctx, ast.Store)}
        self.assertEqual(methods & values, set())

    def test_statements(self):
        for place, node in self.nodes(ast.stmt):
            with self.subTest(place):
                self.assertIsInstance(node, STATEMENTS)
                if isinstance(node, ast.Expr) and node.lineno > 1:
                    self.assertIsInstance(node.value, ast.Call)
                if isinstance(node, ast.Assign):
                    self.assertEqual(len(node.targets), 1)
                if isinstance(node, (ast.For, ast.While)):
                    self.assertFalse(node.orelse)
                if isinstance(node, ast.Try):
                    self.assertFalse(node.finalbody)
                    self.assertTrue(all(handler.type for handler in node.handlers))
                if isinstance(node, ast.Raise):
                    self.assertIsInstance(node.exc, ast.Call)

    def test_module_tops(self):
        for path, text in self.files.items():
            for place, row in enumerate(ast.parse(text).body):
                with self.subTest(f"{path.name}:{row.lineno}"):
                    if isinstance(row, ast.Expr):
                        self.assertEqual(place, 0)
                    else:
                        self.assertIsInstance(row, (ast.ImportFrom, ast.FunctionDef, ast.ClassDef, ast.Assign))
                    if isinstance(row, ast.Assign):
                        self.assertIsInstance(row.value, (ast.Constant, ast.List, ast.Tuple, ast.Dict, ast.UnaryOp))

    def test_imports(self):
        for place, node in self.nodes(ast.ImportFrom):
            with self.subTest(place):
                self.assertEqual(node.level, 0)
                self.assertRegex(node.module, r"^(twigtable\.[a-z0-9_]+|__future__)$")
                self.assertNotIn("*", [one.name for one in node.names])

    def test_no_two_files_draw_from_one_another(self):
        drawn = {path.stem: set() for path in self.files}
        for path, text in self.files.items():
            for node in ast.walk(ast.parse(text)):
                if isinstance(node, ast.ImportFrom) and node.module != "__future__":
                    drawn[path.stem].add(node.module.split(".")[1])
        while drawn:
            free = [name for name, needs in drawn.items() if not needs & set(drawn)]
            self.assertTrue(free, drawn)
            drawn = {name: needs for name, needs in drawn.items() if name not in free}

    def test_expressions(self):
        for place, node in self.nodes(ast.expr):
            with self.subTest(place):
                self.assertIsInstance(node, EXPRESSIONS)
                if isinstance(node, ast.BinOp):
                    self.assertNotIsInstance(node.op, (ast.Div, ast.MatMult))
                if isinstance(node, ast.BinOp) and isinstance(node.op, ast.Pow):
                    self.assertIsInstance(node.right, ast.Constant)
                    self.assertIn(node.right.value, range(65))
                if isinstance(node, ast.Constant):
                    self.assertNotIsInstance(node.value, (float, complex, bytes))
                    self.assertFalse(isinstance(node.value, str) and "%" in node.value)
                if isinstance(node, ast.ListComp):
                    self.assertEqual(len(node.generators), 1)
                    self.assertLessEqual(len(node.generators[0].ifs), 1)
                if isinstance(node, ast.FormattedValue):
                    self.assertIsInstance(node.value, ast.Name)
                    self.assertIsNone(node.format_spec)

    def test_is_stands_beside_none_and_truths_alone(self):
        for place, node in self.nodes(ast.Compare):
            for operator, right in zip(node.ops, node.comparators):
                if isinstance(operator, (ast.Is, ast.IsNot)):
                    with self.subTest(place):
                        self.assertIsInstance(right, ast.Constant)
                        self.assertIn(right.value, (None, True, False))

    def test_names(self):
        for place, node in self.nodes(ast.Name, ast.arg):
            name = node.arg if isinstance(node, ast.arg) else node.id
            with self.subTest(place, name=name):
                self.assertRegex(name, "^[A-Za-z]")
                if isinstance(node, ast.Name) and isinstance(node.ctx, ast.Load):
                    self.assertTrue(name in BUILT_IN or not hasattr(builtins, name))
                else:
                    self.assertFalse(hasattr(builtins, name))

    def test_no_local_is_called_like_a_class_or_an_import(self):
        for path, text in self.files.items():
            rows = ast.parse(text).body
            taken = {row.name for row in rows if isinstance(row, ast.ClassDef)}
            taken |= {one.asname or one.name for row in rows if isinstance(row, ast.ImportFrom) for one in row.names}
            for node in ast.walk(ast.parse(text)):
                stored = isinstance(node, ast.Name) and isinstance(node.ctx, ast.Store)
                if stored or isinstance(node, ast.arg):
                    with self.subTest(f"{path.name}:{node.lineno}"):
                        self.assertNotIn(node.id if stored else node.arg, taken)

    def test_methods(self):
        for place, node in self.nodes(ast.Attribute):
            with self.subTest(place, name=node.attr):
                self.assertNotIn(node.attr, METHODS_OUT)
                self.assertTrue(node.attr in DUNDERS or not node.attr.startswith("_"))


if __name__ == "__main__":
    unittest.main()

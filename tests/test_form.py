"""The form of the package's files, as far as it can be read from them: the part of Python it keeps to."""

import ast
import builtins
import pathlib
import re
import unittest

PACKAGE = pathlib.Path(__file__).resolve().parent.parent / "glowboard"

ALLOWED_BUILTINS = set(
    "len range enumerate zip min max sum abs sorted reversed int str bool list tuple dict set frozenset isinstance "
    "ord repr any all divmod Exception ValueError TypeError KeyError IndexError LookupError ZeroDivisionError "
    "ArithmeticError OverflowError RuntimeError NotImplementedError AttributeError StopIteration".split())

ALLOWED_METHODS = set(
    "append clear copy count endswith extend find get index insert isalnum isalpha isdigit islower isspace isupper "
    "items join keys ljust lower lstrip partition pop remove replace reverse rfind rjust rpartition rsplit rstrip "
    "setdefault split splitlines startswith strip update upper values zfill bit_length add discard".split())

OWN_DUNDERS = {"__init__", "__eq__", "__repr__", "__str__", "__len__"}

OUT_AS_WORDS = re.compile(
    r"\b(type|typing|typing_extensions|enum|Enum|IntEnum|StrEnum|Flag|IntFlag|Generic|Protocol|ABC|ABCMeta|namedtuple"
    r"|NamedTuple|TypedDict|TYPE_CHECKING|abstractmethod)\b|dataclass|overload|contextmanager")

OUT_AS_NAMES = set(
    "register mro elements open input version_info with_traceback add_note format format_map attrgetter breakpoint "
    "builtins compile copyright credits delattr dir eval exec exit gc getattr globals hasattr help id importlib "
    "license locals methodcaller os quit setattr super type vars chr".split())

STATEMENTS = (
    ast.Assign, ast.AugAssign, ast.AnnAssign, ast.If, ast.While, ast.For, ast.Return, ast.Break, ast.Continue,
    ast.Pass, ast.Raise, ast.Try, ast.Expr, ast.FunctionDef, ast.ClassDef, ast.ImportFrom)

EXPRESSIONS = (
    ast.Constant, ast.Name, ast.List, ast.Tuple, ast.Dict, ast.Set, ast.BinOp, ast.UnaryOp, ast.BoolOp, ast.Compare,
    ast.IfExp, ast.Call, ast.Attribute, ast.Subscript, ast.Slice, ast.ListComp, ast.JoinedStr, ast.FormattedValue,
    ast.Lambda)

TOP = (ast.ImportFrom, ast.FunctionDef, ast.ClassDef, ast.Assign, ast.Expr)

WALKED_AT_ONCE = {"zip", "enumerate", "reversed", "range"}

VALUES_LIKE_METHODS = set("count index title find get join lower upper split strip copy add".split())

KEYWORDS = {
    "sorted": ("key", "reverse"), "min": ("key", "default"), "max": ("key", "default"), "sum": ("start",),
    "enumerate": ("start",), "zip": ("strict",)}


def files():
    return [path for path in sorted(PACKAGE.rglob("*")) if "__pycache__" not in path.parts and path.is_file()]


def python_values():
    """The names of the methods and values that Python's own values have."""
    kinds = (str, int, list, tuple, dict, set, bytes)
    return {name for kind in kinds for name in dir(kind) if not name.startswith("_")}


class FormTest(unittest.TestCase):

    def setUp(self):
        self.sources = {path: path.read_text(encoding="utf-8") for path in files() if path.suffix == ".py"}
        self.trees = {path: ast.parse(source) for path, source in self.sources.items()}

    def nodes(self, *kinds):
        for path, tree in self.trees.items():
            for node in ast.walk(tree):
                if isinstance(node, kinds):
                    yield f"{path.name}:{getattr(node, 'lineno', 0)}", node

    def test_files(self):
        self.assertIn(PACKAGE / "__init__.py", files())
        for path in files():
            self.assertRegex(path.name, r"^(__init__|__main__|[a-z][a-z0-9_]*)\.py$")

    def test_signs_and_sizes(self):
        for path, source in self.sources.items():
            self.assertRegex(source, r"\A[ -~\n]*\Z", path.name)
            lines = source.split("\n")
            self.assertLessEqual(len(lines) - 1, 400, path.name)
            self.assertLessEqual(max(len(line) for line in lines), 120, path.name)
        for where, node in self.nodes(ast.FunctionDef):
            self.assertLessEqual(node.end_lineno - node.lineno + 1, 40, where)

    def test_words_that_are_out(self):
        for path, source in self.sources.items():
            self.assertIsNone(OUT_AS_WORDS.search(source), path.name)

    def test_tops_and_imports(self):
        for path, tree in self.trees.items():
            if path.name == "__main__.py":
                continue
            bound = []
            for node in tree.body:
                where = f"{path.name}:{node.lineno}"
                self.assertIsInstance(node, TOP, where)
                if isinstance(node, ast.Expr):
                    self.assertTrue(node is tree.body[0] and isinstance(node.value, ast.Constant), where)
                if isinstance(node, (ast.FunctionDef, ast.ClassDef)):
                    bound.append(node.name)
            self.assertEqual(len(set(bound)), len(bound), path.name)
        for where, node in self.nodes(ast.ImportFrom):
            self.assertEqual((0, 0), (node.level, node.col_offset), where)
            for name in node.names:
                self.assertNotEqual("*", name.name, where)
            if node.module != "__future__":
                self.assertRegex(node.module, r"^glowboard\.[a-z0-9_.]+$", where)

    def test_no_two_files_draw_from_one_another(self):
        drawn = {}
        for path, tree in self.trees.items():
            name = ".".join(("glowboard",) + path.relative_to(PACKAGE).with_suffix("").parts)
            drawn[name] = [node.module for node in tree.body if isinstance(node, ast.ImportFrom)]

        def reached(name, path):
            self.assertNotIn(name, path)
            for other in drawn.get(name, []):
                reached(other, path + [name])

        for name in drawn:
            reached(name, [])

    def test_statements(self):
        for where, node in self.nodes(ast.stmt):
            if not where.startswith("__main__"):
                self.assertIsInstance(node, STATEMENTS, where)
        for where, node in self.nodes(ast.Assign):
            self.assertEqual(1, len(node.targets), where)
        for where, node in self.nodes(ast.For, ast.While):
            self.assertEqual([], node.orelse, where)
        for where, node in self.nodes(ast.Try):
            self.assertEqual([], node.finalbody, where)
            for handler in node.handlers:
                self.assertIsNotNone(handler.type, where)
        for where, node in self.nodes(ast.Expr):
            self.assertIsInstance(node.value, (ast.Call, ast.Constant), where)

    def test_functions_and_classes(self):
        for where, node in self.nodes(ast.FunctionDef, ast.Lambda):
            told = node.args
            self.assertFalse(told.vararg or told.kwarg or told.kwonlyargs or told.posonlyargs, where)
        for where, node in self.nodes(ast.FunctionDef, ast.ClassDef):
            self.assertEqual([], node.decorator_list, where)
        for where, node in self.nodes(ast.ClassDef):
            self.assertLessEqual(len(node.bases), 1, where)
            self.assertEqual([], node.keywords, where)
            for inner in node.body:
                self.assertIsInstance(inner, (ast.FunctionDef, ast.Expr, ast.Pass), where)

    def test_expressions(self):
        for where, node in self.nodes(ast.expr):
            self.assertIsInstance(node, EXPRESSIONS, where)
        for where, node in self.nodes(ast.Constant):
            self.assertIn(type(node.value), (int, str, bool, type(None)), where)
            if isinstance(node.value, str):
                self.assertNotIn("%", node.value, where)
        for where, node in self.nodes(ast.BinOp, ast.AugAssign):
            self.assertNotIsInstance(node.op, (ast.Div, ast.MatMult), where)
        for where, node in self.nodes(ast.BinOp):
            if isinstance(node.op, ast.Pow):
                self.assertIsInstance(node.right, ast.Constant, where)
        for where, node in self.nodes(ast.ListComp):
            self.assertEqual(1, len(node.generators), where)
            self.assertLessEqual(len(node.generators[0].ifs), 1, where)
        for where, node in self.nodes(ast.FormattedValue):
            self.assertIsInstance(node.value, ast.Name, where)
            self.assertIsNone(node.format_spec, where)

    def test_is_beside_none_and_truths_alone(self):
        for where, node in self.nodes(ast.Compare):
            for op, other in zip(node.ops, node.comparators):
                if isinstance(op, (ast.Is, ast.IsNot)):
                    self.assertIsInstance(other, ast.Constant, where)
                    self.assertIn(other.value, (None, True, False), where)

    def test_names(self):
        own_values = python_values() - ALLOWED_METHODS
        for where, node in self.nodes(ast.Name):
            if hasattr(builtins, node.id) and not where.startswith("__main__"):
                self.assertIn(node.id, ALLOWED_BUILTINS, where)
                self.assertIsInstance(node.ctx, ast.Load, where)
            self.assertNotIn(node.id, OUT_AS_NAMES, where)
            if not where.startswith("__main__"):
                self.assertRegex(node.id, r"^[A-Za-z]", where)
        for where, node in self.nodes(ast.arg):
            self.assertRegex(node.arg, r"^[A-Za-z][A-Za-z0-9_]*$", where)
            self.assertFalse(hasattr(builtins, node.arg), where)
        for where, node in self.nodes(ast.FunctionDef):
            self.assertTrue(node.name in OWN_DUNDERS or re.match(r"^[A-Za-z]", node.name), where)
        for where, node in self.nodes(ast.Attribute):
            self.assertNotIn(node.attr, OUT_AS_NAMES | own_values, where)
            self.assertTrue(node.attr in OWN_DUNDERS or re.match(r"^[A-Za-z]", node.attr), where)

    def test_no_local_is_called_like_a_class_or_an_import_of_its_file(self):
        for path, tree in self.trees.items():
            taken = {name.asname or name.name for node in tree.body if isinstance(node, ast.ImportFrom)
                     for name in node.names}
            taken |= {node.name for node in tree.body if isinstance(node, ast.ClassDef)}
            for node in ast.walk(tree):
                where = f"{path.name}:{getattr(node, 'lineno', 0)}"
                if isinstance(node, ast.arg):
                    self.assertNotIn(node.arg, taken, where)
                if isinstance(node, ast.Name) and isinstance(node.ctx, ast.Store):
                    self.assertNotIn(node.id, taken, where)
                if isinstance(node, ast.FunctionDef):
                    self.assertNotIn(node.name, taken, where)
                    self.assertFalse(hasattr(builtins, node.name) and node.col_offset == 0, where)

    def test_methods_and_values_of_objects(self):
        methods, values = set(), {}
        for where, node in self.nodes(ast.ClassDef):
            own = [inner.name for inner in node.body if isinstance(inner, ast.FunctionDef)]
            self.assertEqual(len(set(own)), len(own), where)
            methods.update(own)
        for where, node in self.nodes(ast.Attribute):
            if isinstance(node.ctx, ast.Store):
                self.assertIsInstance(node.value, ast.Name, where)
                values[node.attr] = where
        self.assertEqual(set(), methods & set(values))
        self.assertEqual(set(), (methods & python_values()) - ALLOWED_METHODS)
        self.assertEqual(set(), (set(values) & python_values()) - VALUES_LIKE_METHODS)
        for where, node in self.nodes(ast.FunctionDef):
            if node.name == "__init__":
                returns = [inner for inner in ast.walk(node) if isinstance(inner, ast.Return)]
                self.assertEqual([], returns, where)

    def test_keywords_at_pythons_own(self):
        for where, node in self.nodes(ast.Call):
            if isinstance(node.func, ast.Name) and hasattr(builtins, node.func.id):
                told = [keyword.arg for keyword in node.keywords]
                self.assertLessEqual(set(told), set(KEYWORDS.get(node.func.id, ())), where)

    def test_no_annotations(self):
        for where, node in self.nodes(ast.AnnAssign, ast.arg, ast.FunctionDef):
            self.assertNotIsInstance(node, ast.AnnAssign, where)
            self.assertIsNone(getattr(node, "annotation", None), where)
            self.assertIsNone(getattr(node, "returns", None), where)

    def test_walked_at_once(self):
        for where, node in self.nodes(ast.Assign, ast.Return):
            value = node.value
            if isinstance(value, ast.Call) and isinstance(value.func, ast.Name):
                self.assertNotIn(value.func.id, WALKED_AT_ONCE, where)


if __name__ == "__main__":
    unittest.main()

"""The package keeps to its small part of Python: what of those rules can be seen in the files' own words."""

import ast
import builtins
import pathlib
import re
import unittest

ROOT = pathlib.Path(__file__).resolve().parent.parent / "felltimber"
FILES = sorted(ROOT.glob("*.py"))

BUILT_IN = set(
    "len range enumerate zip min max sum abs sorted reversed int str bool bytes list tuple dict set frozenset isinstance "
    "ord repr any all divmod Exception ValueError TypeError KeyError IndexError LookupError ZeroDivisionError "
    "ArithmeticError OverflowError RuntimeError NotImplementedError AttributeError StopIteration".split()
)
METHODS = set(
    "append clear copy count endswith extend find get index insert isalnum isalpha isdigit islower isspace isupper items "
    "join keys ljust lower lstrip partition pop remove replace reverse rfind rjust rpartition rsplit rstrip setdefault "
    "split splitlines startswith strip update upper values zfill bit_length sort add discard".split()
)
NO_WORDS = (
    "type typing typing_extensions enum Enum IntEnum StrEnum Flag IntFlag Generic Protocol ABC ABCMeta namedtuple "
    "NamedTuple TypedDict TYPE_CHECKING abstractmethod"
).split()
NO_PIECES = ["dataclass", "overload", "contextmanager"]
NO_NAMES = set(
    "register mro elements open input version_info with_traceback add_note attrgetter breakpoint builtins compile "
    "copyright credits delattr dir eval exec exit gc getattr globals hasattr help id importlib license locals "
    "methodcaller os quit setattr super type vars sys".split()
)
UNDERSCORED = {"__init__", "__eq__", "__repr__", "__str__", "__len__"}
NODES = (
    ast.Module, ast.ImportFrom, ast.alias, ast.FunctionDef, ast.ClassDef, ast.arguments, ast.arg, ast.Assign, ast.AugAssign,
    ast.If, ast.While, ast.For, ast.Return, ast.Break, ast.Continue, ast.Pass, ast.Raise, ast.Try, ast.ExceptHandler,
    ast.Expr, ast.Delete, ast.Assert, ast.Name, ast.Attribute, ast.Subscript, ast.Slice, ast.Call, ast.keyword, ast.Constant,
    ast.List, ast.Tuple, ast.Dict, ast.Set, ast.ListComp, ast.DictComp, ast.SetComp, ast.comprehension, ast.BinOp,
    ast.UnaryOp, ast.BoolOp, ast.Compare, ast.IfExp, ast.JoinedStr, ast.FormattedValue, ast.Lambda, ast.Starred,
    ast.expr_context, ast.operator, ast.unaryop, ast.boolop, ast.cmpop,
)


def trees_of_files():
    return [(path, ast.parse(path.read_text("utf-8"))) for path in FILES]


def all_nodes():
    return [(path.name, node) for path, tree in trees_of_files() for node in ast.walk(tree)]


def bound_names(node):
    """The names that a node gives a meaning to."""
    if isinstance(node, (ast.FunctionDef, ast.ClassDef)):
        return [node.name]
    if isinstance(node, ast.arg):
        return [node.arg]
    if isinstance(node, ast.alias):
        return [node.asname or node.name]
    if isinstance(node, ast.Name) and isinstance(node.ctx, ast.Store):
        return [node.id]
    return []


def top_names(tree):
    """The names that are bound at a file's top."""
    found = []
    for row in tree.body:
        for node in [row] + getattr(row, "targets", []) + (row.names if isinstance(row, ast.ImportFrom) else []):
            found.extend(bound_names(node))
    return found


class Files(unittest.TestCase):

    def test_plain_files_alone(self):
        self.assertIn(ROOT / "__init__.py", FILES)
        for path in ROOT.iterdir():
            if path.name != "__pycache__":
                self.assertRegex(path.name, r"\A[a-z0-9_]+\.py\Z")

    def test_size_and_signs(self):
        for path in FILES:
            text = path.read_text("utf-8")
            self.assertRegex(text, r"\A[ -~\n]*\Z", path)
            self.assertLessEqual(len(text.splitlines()), 400, path)
            for row in text.splitlines():
                self.assertLessEqual(len(row), 120, row)

    def test_words(self):
        for path in FILES:
            words = re.findall(r"\w+", path.read_text("utf-8"))
            for word in NO_WORDS:
                self.assertNotIn(word, words, path)
            for piece in NO_PIECES:
                self.assertNotIn(piece, path.read_text("utf-8"), path)

    def test_functions_are_small(self):
        for name, node in all_nodes():
            if isinstance(node, ast.FunctionDef):
                self.assertLessEqual(node.end_lineno - node.lineno + 1, 40, (name, node.name))
                self.assertEqual(node.decorator_list, [])
                self.assertIsNone(node.args.vararg or node.args.kwarg)
                self.assertEqual(node.args.posonlyargs, [])


class Imports(unittest.TestCase):

    def test_own_modules_by_their_full_names(self):
        for name, node in all_nodes():
            self.assertNotIsInstance(node, ast.Import)
            if isinstance(node, ast.ImportFrom):
                self.assertEqual(node.level, 0, name)
                self.assertRegex(node.module, r"\Afelltimber\.[a-z]+\Z")

    def test_each_name_comes_from_the_file_that_defines_it(self):
        own = {}
        for path, tree in trees_of_files():
            rows = [row for row in tree.body if not isinstance(row, ast.ImportFrom)]
            own["felltimber." + path.stem] = top_names(ast.Module(rows, []))
        for name, node in all_nodes():
            if isinstance(node, ast.ImportFrom):
                for drawn in node.names:
                    self.assertIn(drawn.name, own[node.module], name)

    def test_no_two_files_draw_from_one_another(self):
        draws = {
            "felltimber." + path.stem: [row.module for row in tree.body if isinstance(row, ast.ImportFrom)]
            for path, tree in trees_of_files()
        }
        while draws:
            free = [name for name in draws if not any(other in draws for other in draws[name])]
            self.assertTrue(free, draws)
            for name in free:
                del draws[name]


class Words(unittest.TestCase):

    def test_statements_and_expressions(self):
        for name, node in all_nodes():
            self.assertIsInstance(node, NODES, (name, getattr(node, "lineno", 0)))
            self.assertNotIsInstance(node, (ast.Div, ast.MatMult))
            if isinstance(node, (ast.For, ast.While)):
                self.assertEqual(node.orelse, [], name)

    def test_values(self):
        for name, node in all_nodes():
            if isinstance(node, ast.Constant):
                self.assertNotIsInstance(node.value, (float, complex), name)
                if isinstance(node.value, str):
                    self.assertNotIn("%", node.value, name)
            if isinstance(node, ast.BinOp) and isinstance(node.op, ast.Pow):
                self.assertIsInstance(node.right, ast.Constant, name)
                self.assertIn(node.right.value, range(65), name)
            if isinstance(node, ast.FormattedValue):
                self.assertIsNone(node.format_spec, name)

    def test_is_stands_beside_none_true_and_false(self):
        for name, node in all_nodes():
            if isinstance(node, ast.Compare) and any(isinstance(sign, (ast.Is, ast.IsNot)) for sign in node.ops):
                self.assertTrue(any(isinstance(side, ast.Constant) for side in [node.left] + node.comparators), name)

    def test_names(self):
        for path, node in all_nodes():
            for name in bound_names(node):
                if name in UNDERSCORED:
                    continue
                self.assertRegex(name, r"\A[A-Za-z][A-Za-z0-9_]*\Z", path)
                self.assertNotIn(name, NO_NAMES, path)
                self.assertFalse(hasattr(builtins, name), (path, name))

    def test_names_of_pythons_own(self):
        for path, tree in trees_of_files():
            known = {name for node in ast.walk(tree) for name in bound_names(node)}
            for node in ast.walk(tree):
                if isinstance(node, ast.Name) and node.id not in known:
                    self.assertIn(node.id, BUILT_IN, path.name)

    def test_no_local_is_called_like_a_class_or_an_import(self):
        for path, tree in trees_of_files():
            tops = top_names(tree)
            self.assertEqual(len(tops), len(set(tops)), path.name)
            taken = {row.name for row in tree.body if isinstance(row, ast.ClassDef)}
            taken |= {drawn.name for row in tree.body if isinstance(row, ast.ImportFrom) for drawn in row.names}
            for node in ast.walk(tree):
                if isinstance(node, ast.arg) or (isinstance(node, ast.Name) and isinstance(node.ctx, ast.Store)):
                    self.assertNotIn(bound_names(node)[0], taken, path.name)

    def test_methods_and_values(self):
        methods, values = set(), set()
        for path, tree in trees_of_files():
            for row in [row for row in tree.body if isinstance(row, ast.ClassDef)]:
                methods |= {deed.name for deed in row.body if isinstance(deed, ast.FunctionDef)}
        for path, node in all_nodes():
            if isinstance(node, ast.Attribute) and isinstance(node.ctx, ast.Store):
                values.add(node.attr)
        self.assertEqual(methods & values, set())
        for path, node in all_nodes():
            if isinstance(node, ast.Attribute):
                self.assertIn(node.attr, methods | values | METHODS, path)

"""The form of the package's files: what ../shared/LANGUAGE.md asks and a tree of the code shows."""

import ast
import builtins
import re
import unittest
from pathlib import Path

PACKAGE = Path(__file__).resolve().parent.parent / "widelines"

ALLOWED_NODES = """
Module Import ImportFrom alias FunctionDef arguments arg Lambda ClassDef Assign AnnAssign AugAssign
If While For Return Break Continue Pass Raise Try ExceptHandler Expr Call keyword
Constant List Tuple Dict Set Name Attribute Subscript Slice Load Store
BinOp Add Sub Mult FloorDiv Mod Pow BitAnd BitOr BitXor LShift RShift
UnaryOp USub UAdd Not Invert BoolOp And Or IfExp ListComp comprehension
Compare Eq NotEq Lt LtE Gt GtE Is IsNot In NotIn JoinedStr FormattedValue
""".split()

ALLOWED_BUILTINS = """
len range enumerate zip min max sum abs sorted reversed int str bool list tuple dict set frozenset
isinstance ord repr any all divmod Exception ValueError TypeError KeyError IndexError LookupError
ZeroDivisionError ArithmeticError OverflowError RuntimeError NotImplementedError StopIteration
""".split()

ALLOWED_UNDERSCORES = ("__init__", "__eq__", "__repr__", "__str__", "__len__", "__all__", "__version__", "__name__")

VALUE_METHODS = """
append clear copy count endswith extend find get index insert isalnum isalpha isdigit islower isspace isupper
items join keys ljust lower lstrip partition pop remove replace reverse rfind rjust rpartition rsplit rstrip
setdefault split splitlines startswith strip update upper values zfill bit_length
""".split()

BARRED_WORDS = """
type typing typing_extensions enum Enum IntEnum StrEnum Flag IntFlag Generic Protocol ABC ABCMeta
namedtuple NamedTuple TypedDict TYPE_CHECKING abstractmethod
""".split()

BARRED_WITHIN_WORDS = ("dataclass", "overload", "contextmanager")

BARRED_NAMES = """
register mro elements open input version_info with_traceback add_note attrgetter breakpoint builtins compile
copyright credits delattr dir eval exec exit gc getattr globals hasattr help id importlib license locals
methodcaller os quit setattr super type vars
""".split()

BARRED_VALUES = """
items keys values pop update append clear extend insert remove reverse setdefault sort args encode format
""".split()

FUNCTION_LINES = 40
FILE_LINES = 400
LINE_SIGNS = 120


def files():
    return sorted(PACKAGE.glob("*.py"))


def each_tree():
    return [(path.name, ast.parse(path.read_text(encoding="ascii"))) for path in files()]


def each_node():
    return [(name, node) for name, tree in each_tree() for node in ast.walk(tree)]


def told_names(node):
    """The names that a node writes out, used or bound."""
    if isinstance(node, ast.Name):
        return [node.id]
    if isinstance(node, ast.arg):
        return [node.arg]
    if isinstance(node, ast.Attribute):
        return [node.attr]
    if isinstance(node, (ast.FunctionDef, ast.ClassDef, ast.ExceptHandler)):
        return [node.name] if node.name else []
    return []


class TestFiles(unittest.TestCase):
    def test_nothing_else_lies_in_the_package(self):
        others = [path.name for path in PACKAGE.iterdir() if path.suffix != ".py" and path.name != "__pycache__"]
        self.assertEqual(others, [])
        for path in files():
            self.assertRegex(path.name, r"^(__init__|__main__|[a-z][a-z0-9_]*)\.py$")
        self.assertTrue((PACKAGE / "__init__.py").is_file())

    def test_signs_and_sizes(self):
        for path in files():
            text = path.read_bytes().decode("utf-8")
            self.assertRegex(text, r"\A[ -~\n]*\Z", path.name)
            rows = text.splitlines()
            self.assertLessEqual(len(rows), FILE_LINES, path.name)
            for row in rows:
                self.assertLessEqual(len(row), LINE_SIGNS, path.name)

    def test_words(self):
        for path in files():
            text = path.read_text(encoding="ascii")
            for word in BARRED_WORDS:
                self.assertIsNone(re.search(rf"\b{word}\b", text), (path.name, word))
            for word in BARRED_WITHIN_WORDS:
                self.assertNotIn(word, text, path.name)


class TestTrees(unittest.TestCase):
    def test_statements_and_expressions(self):
        for name, node in each_node():
            self.assertIn(type(node).__name__, ALLOWED_NODES, (name, getattr(node, "lineno", 0)))

    def test_top_of_a_module(self):
        for name, tree in each_tree():
            for row in tree.body[1:]:
                allowed = (ast.ImportFrom, ast.FunctionDef, ast.ClassDef, ast.Assign)
                if name == "__main__.py":
                    allowed += (ast.Import, ast.If)
                self.assertIsInstance(row, allowed, (name, row.lineno))
            self.assertIsNotNone(ast.get_docstring(tree), name)

    def test_imports(self):
        held = {name: [top for row in tree.body for top in told_names(row)] for name, tree in each_tree()}
        for name, node in each_node():
            if isinstance(node, ast.ImportFrom):
                self.assertEqual(node.level, 0)
                package, dot, module = node.module.partition(".")
                self.assertEqual((package, dot), ("widelines", "."), name)
                for one in node.names:
                    self.assertIn(one.name, held[module + ".py"], name)
            if isinstance(node, ast.Import):
                self.assertEqual((name, [one.name for one in node.names]), ("__main__.py", ["sys"]))

    def test_functions(self):
        for name, node in each_node():
            if isinstance(node, ast.FunctionDef):
                self.assertLessEqual(node.end_lineno - node.lineno + 1, FUNCTION_LINES, (name, node.name))
                self.assertEqual(node.decorator_list, [])
                told = node.args
                self.assertEqual((told.vararg, told.kwarg, told.kwonlyargs, told.posonlyargs), (None, None, [], []))

    def test_names(self):
        for name, node in each_node():
            for told in told_names(node):
                if told in ALLOWED_UNDERSCORES:
                    continue
                self.assertRegex(told, r"^[A-Za-z][A-Za-z0-9_]*$", name)
                self.assertNotIn(told, BARRED_NAMES, name)
                if isinstance(node, ast.Name) and hasattr(builtins, told):
                    wanted = ALLOWED_BUILTINS + (["print"] if name == "__main__.py" else [])
                    self.assertIn(told, wanted, (name, node.lineno))
                if not isinstance(node, (ast.Name, ast.Attribute)):
                    self.assertFalse(hasattr(builtins, told), (name, told))

    def test_methods(self):
        own = [one.name for name, one in each_node() if isinstance(one, ast.FunctionDef)]
        for name, node in each_node():
            if isinstance(node, ast.Call) and isinstance(node.func, ast.Attribute):
                self.assertIn(node.func.attr, VALUE_METHODS + own, (name, node.lineno))

    def test_values(self):
        for name, node in each_node():
            if isinstance(node, ast.Constant):
                self.assertIsInstance(node.value, (int, str, type(None)), name)
                self.assertNotIn(chr(37), str(node.value), name)
            if isinstance(node, ast.Assign):
                self.assertEqual(len(node.targets), 1, (name, node.lineno))
                self.assertNotIsInstance(node.targets[0], ast.Starred)
            if isinstance(node, (ast.For, ast.While)):
                self.assertEqual(node.orelse, [], (name, node.lineno))
            if isinstance(node, ast.ListComp):
                self.assertEqual(len(node.generators), 1, (name, node.lineno))
                self.assertLessEqual(len(node.generators[0].ifs), 1, (name, node.lineno))
            if isinstance(node, ast.Compare) and isinstance(node.ops[0], (ast.Is, ast.IsNot)):
                self.assertIsInstance(node.comparators[0], ast.Constant, (name, node.lineno))


WALKED = ("zip", "enumerate", "reversed", "range")
WALKERS = ("list", "tuple", "dict", "sorted", "sum", "any", "all", "enumerate", "zip")
KEYWORDS = {
    "sorted": ("key", "reverse"),
    "min": ("key", "default"),
    "max": ("key", "default"),
    "sum": ("start",),
    "enumerate": ("start",),
    "zip": ("strict",),
}


def each_function():
    return [(name, node) for name, node in each_node() if isinstance(node, ast.FunctionDef)]


def held_by_classes():
    """The names of all methods, and of all values that methods give to an object."""
    methods, values = [], []
    for name, node in each_node():
        if isinstance(node, ast.ClassDef):
            methods += [row.name for row in node.body if isinstance(row, ast.FunctionDef)]
        if isinstance(node, ast.Attribute) and isinstance(node.ctx, ast.Store):
            values.append(node.attr)
    return methods, values


def called(node):
    """The name that a call calls, where it is a plain one."""
    return node.func.id if isinstance(node, ast.Call) and isinstance(node.func, ast.Name) else None


def walked_on_the_spot(node):
    """The calls that a node walks at once."""
    if isinstance(node, (ast.For, ast.comprehension)):
        return [node.iter]
    if isinstance(node, ast.Call):
        if called(node) in WALKERS:
            return node.args[:1]
        if called(node) in ("min", "max") and len(node.args) == 1:
            return node.args
        if isinstance(node.func, ast.Attribute) and node.func.attr == "join":
            return node.args
    return []


class TestRules(unittest.TestCase):
    """Rules of which the tree shows whether they hold, where the package may be narrower than they are."""

    def test_a_row_by_itself_is_a_call(self):
        for name, tree in each_tree():
            for node in ast.walk(tree):
                if isinstance(node, ast.Expr) and node is not tree.body[0]:
                    self.assertIsInstance(node.value, ast.Call, (name, node.lineno))

    def test_top_values_are_plain(self):
        plain = (ast.Constant, ast.Tuple, ast.List, ast.Dict, ast.UnaryOp, ast.USub, ast.Load, ast.Name)
        for name, tree in each_tree():
            for row in tree.body:
                if isinstance(row, ast.Assign):
                    self.assertIsInstance(row.targets[0], ast.Name)
                    for node in ast.walk(row.value):
                        self.assertIsInstance(node, plain, (name, row.lineno))
                        if isinstance(node, (ast.List, ast.Dict)):
                            self.assertIs(node, row.value, (name, row.lineno))

    def test_each_top_name_once(self):
        for name, tree in each_tree():
            bound = [told for row in tree.body for told in told_names(row)]
            bound += [one.asname or one.name for row in tree.body if isinstance(row, ast.ImportFrom) for one in row.names]
            bound += [row.targets[0].id for row in tree.body if isinstance(row, ast.Assign)]
            self.assertEqual(len(bound), len(set(bound)), name)

    def test_locals(self):
        for name, tree in each_tree():
            taken = [one.name for row in tree.body if isinstance(row, ast.ImportFrom) for one in row.names]
            taken += [row.name for row in tree.body if isinstance(row, (ast.ClassDef, ast.FunctionDef))]
            for node in ast.walk(tree):
                if isinstance(node, ast.arg):
                    self.assertNotIn(node.arg, taken, (name, node.lineno))
                if isinstance(node, ast.Name) and isinstance(node.ctx, ast.Store):
                    self.assertNotIn(node.id, taken, (name, node.lineno))
                    self.assertFalse(hasattr(builtins, node.id), (name, node.id))

    def test_no_two_files_draw_from_one_another(self):
        drawn = {
            name: [row.module.partition(".")[2] + ".py" for row in tree.body if isinstance(row, ast.ImportFrom)]
            for name, tree in each_tree()
        }
        placed = []
        while len(placed) < len(drawn):
            free = [name for name in drawn if name not in placed and all(other in placed for other in drawn[name])]
            self.assertNotEqual(free, [], "some files draw from one another")
            placed += free

    def test_imports_stand_at_the_top_and_are_used(self):
        for name, tree in each_tree():
            used = [node.id for node in ast.walk(tree) if isinstance(node, ast.Name)]
            for node in ast.walk(tree):
                if isinstance(node, ast.ImportFrom):
                    self.assertIn(node, tree.body, name)
                    for one in node.names:
                        self.assertIsNone(one.asname)
                        self.assertIn(one.name, used, name)

    def test_no_annotations(self):
        for name, node in each_node():
            self.assertNotIsInstance(node, ast.AnnAssign)
            if isinstance(node, ast.arg):
                self.assertIsNone(node.annotation)
            if isinstance(node, ast.FunctionDef):
                self.assertIsNone(node.returns)

    def test_pythons_own_are_called(self):
        for name, tree in each_tree():
            stands = [node.func for node in ast.walk(tree) if isinstance(node, ast.Call)]
            stands += [base for node in ast.walk(tree) if isinstance(node, ast.ClassDef) for base in node.bases]
            for node in ast.walk(tree):
                if called(node) == "isinstance":
                    stands += list(ast.walk(node.args[1]))
                if isinstance(node, (ast.ExceptHandler,)):
                    stands += list(ast.walk(node.type))
            for node in ast.walk(tree):
                if isinstance(node, ast.Name) and hasattr(builtins, node.id):
                    self.assertIn(node, stands, (name, node.lineno))

    def test_keywords(self):
        for name, node in each_node():
            if isinstance(node, ast.Call):
                for keyword in node.keywords:
                    self.assertIn(keyword.arg, KEYWORDS.get(called(node), ()), (name, node.lineno))

    def test_walked_at_once(self):
        for name, tree in each_tree():
            walked = [one for node in ast.walk(tree) for one in walked_on_the_spot(node)]
            for node in ast.walk(tree):
                if called(node) in WALKED:
                    self.assertIn(node, walked, (name, node.lineno))
                if isinstance(node, ast.Call) and isinstance(node.func, ast.Attribute):
                    if node.func.attr in ("items", "keys", "values"):
                        self.assertIn(node, walked, (name, node.lineno))

    def test_what_is_walked_stays(self):
        for name, node in each_node():
            if isinstance(node, ast.For):
                walked = {one.id for one in ast.walk(node.iter) if isinstance(one, ast.Name)}
                if called(node.iter) in ("list", "tuple", "sorted", "range"):
                    walked = set()
                for row in node.body:
                    for one in ast.walk(row):
                        if isinstance(one, (ast.Subscript, ast.Name)) and isinstance(one.ctx, ast.Store):
                            held = one.value if isinstance(one, ast.Subscript) else one
                            self.assertFalse(isinstance(held, ast.Name) and held.id in walked, (name, one.lineno))
                        if isinstance(one, ast.Attribute) and isinstance(one.value, ast.Name):
                            if one.attr in ("append", "clear", "extend", "insert", "pop", "remove", "reverse", "update"):
                                self.assertNotIn(one.value.id, walked, (name, one.lineno))

    def test_no_sets(self):
        for name, node in each_node():
            self.assertNotIsInstance(node, ast.Set, name)
            self.assertNotIn(called(node), ("set", "frozenset"), name)

    def test_powers_and_numbers(self):
        for name, node in each_node():
            if isinstance(node, ast.BinOp) and isinstance(node.op, ast.Pow):
                self.assertIsInstance(node.right, ast.Constant, (name, node.lineno))
                self.assertLessEqual(node.right.value, 64)

    def test_errors_are_taken_by_name(self):
        for name, node in each_node():
            if isinstance(node, ast.ExceptHandler):
                self.assertIsInstance(node.type, ast.Name, (name, node.lineno))
                self.assertNotIn(node.type.id, ("Exception", "TypeError"), (name, node.lineno))
            if isinstance(node, ast.Raise):
                self.assertIsInstance(node.exc, ast.Call, (name, node.lineno))

    def test_classes(self):
        for name, tree in each_tree():
            for node in ast.walk(tree):
                if isinstance(node, ast.ClassDef):
                    self.assertIn(node, tree.body)
                    self.assertEqual((node.decorator_list, node.keywords), ([], []))
                    self.assertLessEqual(len(node.bases), 1)
                    for row in node.body:
                        self.assertIsInstance(row, (ast.FunctionDef, ast.Pass), (name, row.lineno))
        methods, values = held_by_classes()
        self.assertEqual(set(methods) & set(values), set())
        self.assertEqual(set(values) & set(BARRED_VALUES), set())
        for name, node in each_function():
            if node.name == "__init__":
                self.assertFalse([one for one in ast.walk(node) if isinstance(one, ast.Return)], name)


if __name__ == "__main__":
    unittest.main()

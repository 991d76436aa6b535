"""The form of the package's files: what of the language rules L1 to L28 can be read off the code."""

import ast
import builtins
import re
import unittest
from pathlib import Path

ROOT = Path(__file__).resolve().parent.parent
PACKAGE = ROOT / "weavehall"

STATEMENTS = (
    ast.Assign, ast.AugAssign, ast.If, ast.While, ast.For, ast.Return, ast.Break, ast.Continue, ast.Pass, ast.Raise,
    ast.Try, ast.Expr, ast.FunctionDef, ast.ClassDef, ast.ImportFrom,
)
EXPRESSIONS = (
    ast.Constant, ast.List, ast.Tuple, ast.Dict, ast.Set, ast.BinOp, ast.UnaryOp, ast.BoolOp, ast.Compare, ast.IfExp,
    ast.Call, ast.Attribute, ast.Subscript, ast.Slice, ast.ListComp, ast.JoinedStr, ast.FormattedValue, ast.Name,
    ast.Lambda,
)
PYTHON_NAMES = set(
    "len range enumerate zip min max sum abs sorted reversed int str bool list tuple dict set frozenset isinstance "
    "ord repr any all divmod Exception ValueError TypeError KeyError IndexError LookupError ZeroDivisionError "
    "ArithmeticError OverflowError RuntimeError NotImplementedError AttributeError StopIteration".split())
METHODS = set(
    "append clear copy count endswith extend find get index insert isalnum isalpha isdigit islower isspace isupper "
    "items join keys ljust lower lstrip partition pop remove replace reverse rfind rjust rpartition rsplit rstrip "
    "setdefault split splitlines startswith strip update upper values zfill bit_length".split())
WORDS = re.compile(
    r"\b(type|typing|typing_extensions|enum|Enum|IntEnum|StrEnum|Flag|IntFlag|Generic|Protocol|ABC|ABCMeta|namedtuple"
    r"|NamedTuple|TypedDict|TYPE_CHECKING|abstractmethod)\b|dataclass|overload|contextmanager")
NOT_USED = set(
    "register mro elements open input version_info with_traceback add_note attrgetter breakpoint builtins compile "
    "copyright credits delattr dir eval exec exit gc getattr globals hasattr help id importlib license locals "
    "methodcaller os quit setattr super type vars sys chr print __name__".split())
WALKED_AT_ONCE = {"zip", "enumerate", "reversed", "range"}
WALKERS = {"list", "tuple", "dict", "sorted", "sum", "any", "all", "enumerate", "zip", "min", "max"}
SET_WALKERS = {"sorted", "len"}
VIEWS = {"items", "keys", "values"}
CHANGES = {"append", "clear", "extend", "insert", "pop", "remove", "reverse", "setdefault", "update"}
KEYWORDS = {
    "sorted": {"key", "reverse"}, "min": {"key", "default"}, "max": {"key", "default"}, "sum": {"start"},
    "enumerate": {"start"}, "zip": {"strict"},
}
AS_KEY = {"len", "int", "str", "abs", "sum", "min", "max", "tuple"}
KINDS = {"int", "str", "bool", "list", "tuple", "dict"}
TAKEN_FREELY = {"KeyError", "ZeroDivisionError", "StopIteration"}


def called_name(node):
    if isinstance(node, ast.Call) and isinstance(node.func, ast.Name):
        return node.func.id
    return None


def with_parents(tree):
    for node in ast.walk(tree):
        for child in ast.iter_child_nodes(node):
            child.parent = node
    return tree


def is_walked(node):
    parent = node.parent
    if isinstance(parent, (ast.For, ast.comprehension)):
        return parent.iter is node
    return called_name(parent) in WALKERS


def names_within(node):
    return {part.id for part in ast.walk(node) if isinstance(part, ast.Name)}


def changed_names(statements):
    """Names whose values are changed in place: by a method that changes, or by giving to an index."""
    found = set()
    for node in [part for statement in statements for part in ast.walk(statement)]:
        if isinstance(node, ast.Call) and isinstance(node.func, ast.Attribute) and node.func.attr in CHANGES:
            found |= names_within(node.func.value)
        if isinstance(node, ast.Subscript) and isinstance(node.ctx, ast.Store):
            found |= names_within(node.value)
    return found


def is_plain(node):
    if isinstance(node, ast.Tuple):
        return all(is_plain(part) for part in node.elts)
    return isinstance(node, ast.Constant)


def bound_names(tree):
    stored = [n.id for n in ast.walk(tree) if isinstance(n, ast.Name) and isinstance(n.ctx, ast.Store)]
    return stored + [n.arg for n in ast.walk(tree) if isinstance(n, ast.arg)]


def names_at_top(tree):
    found = []
    for node in tree.body:
        if isinstance(node, (ast.FunctionDef, ast.ClassDef)):
            found.append(node.name)
        elif isinstance(node, ast.ImportFrom):
            found.extend(alias.name for alias in node.names)
        elif isinstance(node, ast.Assign):
            found.extend(target.id for target in node.targets)
    return found


class FormTest(unittest.TestCase):
    def setUp(self):
        self.files = sorted(PACKAGE.glob("*.py"))
        self.texts = {path.name: path.read_text(encoding="utf-8") for path in self.files}
        self.trees = {name: with_parents(ast.parse(text)) for name, text in self.texts.items()}

    def nodes(self, *kinds):
        for name, tree in self.trees.items():
            for node in ast.walk(tree):
                if isinstance(node, kinds):
                    yield f"{name}:{getattr(node, 'lineno', 0)}", node

    def test_files(self):
        self.assertIn("__init__.py", self.texts)
        for path in PACKAGE.iterdir():
            if path.name != "__pycache__":
                self.assertRegex(path.name, r"^(__init__|__main__|[a-z][a-z0-9_]*)\.py$")
                self.assertNotIn(path.stem, dir(builtins))
                self.assertNotRegex(path.stem, r"^(test.*|site|conftest|sitecustomize|usercustomize)$")

    def test_signs_and_sizes(self):
        for name, text in self.texts.items():
            self.assertRegex(text, r"^[ -~\n]*$", name)
            self.assertIsNone(WORDS.search(text), name)
            self.assertLessEqual(len(text.splitlines()), 400, name)
            self.assertLessEqual(max(map(len, text.splitlines())), 120, name)
        for place, node in self.nodes(ast.FunctionDef):
            self.assertLessEqual(node.end_lineno - node.lineno + 1, 40, place)

    def test_imports(self):
        drawn = {}
        for name, tree in self.trees.items():
            rows = [node for node in ast.walk(tree) if isinstance(node, ast.ImportFrom)]
            drawn[name] = {row.module.removeprefix("weavehall.") + ".py" for row in rows}
            for row in rows:
                self.assertEqual((row.level, row.module.split(".")[0], row.col_offset), (0, "weavehall", 0), name)
                source = self.trees[row.module.removeprefix("weavehall.") + ".py"]
                own = names_at_top(ast.Module([n for n in source.body if not isinstance(n, ast.ImportFrom)], []))
                for alias in row.names:
                    self.assertIn(alias.name, own, name)
        self.assertEqual(drawn["__init__.py"], set())
        while drawn:
            ends = [name for name, others in drawn.items() if not others & set(drawn)]
            self.assertNotEqual(ends, [], f"these draw from one another: {sorted(drawn)}")
            drawn = {name: others for name, others in drawn.items() if name not in ends}

    def test_statements_and_expressions(self):
        for place, node in self.nodes(ast.stmt):
            self.assertIsInstance(node, STATEMENTS, place)
            self.assertFalse(getattr(node, "decorator_list", []), place)
            self.assertFalse(isinstance(node, (ast.For, ast.While)) and node.orelse, place)
            self.assertEqual(len(getattr(node, "targets", [0])), 1, place)
        for place, node in self.nodes(ast.expr):
            self.assertIsInstance(node, EXPRESSIONS, place)
            if isinstance(node, ast.ListComp):
                self.assertEqual(len(node.generators), 1, place)
                self.assertLessEqual(len(node.generators[0].ifs), 1, place)
            if isinstance(node, ast.Constant):
                self.assertIn(type(node.value), (int, str, bool, type(None)), place)
                self.assertNotIn("%", str(node.value), place)
        for place, node in self.nodes(ast.Div, ast.MatMult, ast.Pow):
            self.fail(place)

    def test_the_top_of_each_file(self):
        for name, tree in self.trees.items():
            self.assertIsNotNone(ast.get_docstring(tree), name)
            self.assertEqual(len(names_at_top(tree)), len(set(names_at_top(tree))), name)
            for node in tree.body[1:]:
                self.assertIsInstance(node, (ast.ImportFrom, ast.FunctionDef, ast.ClassDef, ast.Assign), name)

    def test_functions_and_classes(self):
        for place, node in self.nodes(ast.arguments):
            self.assertFalse(node.vararg or node.kwarg or node.kwonlyargs or node.posonlyargs, place)
        for place, node in self.nodes(ast.ClassDef):
            self.assertLessEqual(len(node.bases), 1, place)
            self.assertEqual(node.keywords, [], place)
            for part in node.body:
                self.assertIsInstance(part, (ast.FunctionDef, ast.Pass), place)

    def test_names(self):
        for name, tree in self.trees.items():
            taken = set(dir(builtins))
            for node in ast.walk(tree):
                if isinstance(node, ast.ImportFrom):
                    taken |= {alias.name for alias in node.names}
                if isinstance(node, ast.ClassDef):
                    taken.add(node.name)
            for bound in bound_names(tree):
                self.assertRegex(bound, r"^[A-Za-z][A-Za-z0-9_]*$", name)
                self.assertNotIn(bound, taken, name)
        for place, node in self.nodes(ast.Name):
            self.assertNotIn(node.id, NOT_USED, place)
            if node.id in dir(builtins):
                self.assertIn(node.id, PYTHON_NAMES, place)

    def test_methods(self):
        own = {node.name for place, node in self.nodes(ast.FunctionDef) if isinstance(node.parent, ast.ClassDef)}
        for place, node in self.nodes(ast.Attribute):
            self.assertIn(node.attr, METHODS | own, place)
            self.assertIs(node, getattr(node.parent, "func", None), place)

    def test_is_stands_beside_none_true_and_false(self):
        for place, node in self.nodes(ast.Compare):
            for sign, right in zip(node.ops, node.comparators):
                if isinstance(sign, (ast.Is, ast.IsNot)):
                    self.assertTrue(isinstance(right, ast.Constant) and right.value in (None, True, False), place)

    def test_walked_at_once_and_sets(self):
        for place, node in self.nodes(ast.Call):
            if called_name(node) in WALKED_AT_ONCE:
                self.assertTrue(is_walked(node), place)
            if called_name(node) in ("set", "frozenset"):
                beside = isinstance(node.parent, (ast.Compare, ast.BinOp))
                self.assertTrue(beside or called_name(node.parent) in SET_WALKERS, place)
            if isinstance(node.func, ast.Attribute) and node.func.attr in VIEWS:
                self.assertTrue(is_walked(node), place)

    def test_what_a_loop_walks_is_not_changed_in_it(self):
        for place, node in self.nodes(ast.For):
            self.assertEqual(names_within(node.iter) & changed_names(node.body), set(), place)

    def test_a_statement_by_itself_is_a_call(self):
        for place, node in self.nodes(ast.Expr):
            is_docstring = isinstance(node.parent, ast.Module) and node.parent.body[0] is node
            self.assertTrue(is_docstring or isinstance(node.value, ast.Call), place)

    def test_names_at_the_top_hold_plain_values(self):
        for name, tree in self.trees.items():
            for node in tree.body:
                if isinstance(node, ast.Assign):
                    self.assertTrue(is_plain(node.value), f"{name}:{node.lineno}")

    def test_names_of_functions_and_classes(self):
        for place, node in self.nodes(ast.FunctionDef, ast.ClassDef):
            self.assertRegex(node.name, r"^([A-Za-z][A-Za-z0-9_]*|__(init|eq|repr|str|len)__)$", place)
            self.assertNotIn(node.name, dir(builtins), place)
            if isinstance(node, ast.ClassDef):
                self.assertIsInstance(node.parent, ast.Module, place)

    def test_no_annotations(self):
        for place, node in self.nodes(ast.arg):
            self.assertIsNone(node.annotation, place)
        for place, node in self.nodes(ast.FunctionDef):
            self.assertIsNone(node.returns, place)

    def test_errors_are_made_on_the_spot_and_taken_by_name(self):
        own = {node.name for place, node in self.nodes(ast.ClassDef)}
        for place, node in self.nodes(ast.Raise):
            self.assertIn(called_name(node.exc), own, place)
        for place, node in self.nodes(ast.Try):
            self.assertEqual(node.finalbody, [], place)
        for place, node in self.nodes(ast.ExceptHandler):
            self.assertIsNotNone(node.type, place)
            self.assertLessEqual(names_within(node.type), own | TAKEN_FREELY, place)

    def test_classes_are_not_handed_on(self):
        own = {node.name for place, node in self.nodes(ast.ClassDef)}
        for place, node in self.nodes(ast.Name):
            if node.id in own:
                is_called = isinstance(node.parent, ast.Call) and node.parent.func is node
                self.assertTrue(is_called or isinstance(node.parent, (ast.ClassDef, ast.ExceptHandler)), place)

    def test_pythons_own_are_called_as_told(self):
        for place, node in self.nodes(ast.Call):
            for keyword in node.keywords:
                self.assertIn(keyword.arg, KEYWORDS.get(called_name(node), set()), place)
            if called_name(node) == "isinstance":
                self.assertLessEqual(names_within(node.args[1]), KINDS, place)
        for place, node in self.nodes(ast.Name):
            if node.id in PYTHON_NAMES and not (isinstance(node.parent, ast.Call) and node.parent.func is node):
                is_key = isinstance(node.parent, ast.keyword) and node.parent.arg == "key" and node.id in AS_KEY
                is_kind = node.id in KINDS and "isinstance" in (called_name(node.parent), called_name(node.parent.parent))
                is_base = isinstance(node.parent, (ast.ClassDef, ast.ExceptHandler))
                self.assertTrue(is_key or is_kind or is_base, place)

    def test_texts(self):
        for name, text in self.texts.items():
            self.assertNotRegex(text, r"\\[^nt\\'\"]", name)
        for place, node in self.nodes(ast.FormattedValue):
            self.assertIsInstance(node.value, ast.Name, place)
            self.assertIn(node.conversion, (-1, ord("r")), place)
            self.assertIsNone(node.format_spec, place)


if __name__ == "__main__":
    unittest.main()

"""The form of the package's files, as far as it can be seen from the files alone."""

import ast
import builtins
import re
import unittest
from pathlib import Path

FOLDER = Path(__file__).resolve().parent.parent / "barlabel"

NODES = tuple(getattr(ast, name) for name in """
    Module FunctionDef ClassDef arguments arg Return Assign AugAssign AnnAssign For While If Raise Try ExceptHandler
    ImportFrom Import alias Expr Pass Break Continue BoolOp And Or BinOp Add Sub Mult FloorDiv Mod Pow LShift RShift
    BitOr BitXor BitAnd UnaryOp Invert Not UAdd USub Lambda IfExp Dict Set ListComp comprehension Compare Eq NotEq Lt
    LtE Gt GtE Is IsNot In NotIn Call keyword FormattedValue JoinedStr Constant Attribute Subscript Name List Tuple
    Slice Load Store
""".split())
OWN_NAMES = set("""
    len range enumerate zip min max sum abs sorted reversed int str bool list tuple dict set frozenset isinstance ord
    repr any all divmod Exception ValueError TypeError KeyError IndexError LookupError ZeroDivisionError
    ArithmeticError OverflowError RuntimeError NotImplementedError AttributeError StopIteration
""".split())
METHODS = set("""
    append clear copy count endswith extend find get index insert isalnum isalpha isdigit islower isspace isupper
    items join keys ljust lower lstrip partition pop remove replace reverse rfind rjust rpartition rsplit rstrip
    setdefault split splitlines startswith strip update upper values zfill bit_length
""".split())
DUNDERS = set("__init__ __eq__ __repr__ __str__ __len__ __all__ __version__ __name__".split())
WORDS = re.compile(r"\b(type|typing|typing_extensions|enum|Enum|IntEnum|StrEnum|Flag|IntFlag|Generic|Protocol|ABC|"
                   r"ABCMeta|namedtuple|NamedTuple|TypedDict|TYPE_CHECKING|abstractmethod)\b|"
                   r"dataclass|overload|contextmanager")


def files():
    return sorted(FOLDER.glob("*.py"))


def nodes(kind=ast.AST):
    for file in files():
        for node in ast.walk(ast.parse(file.read_text())):
            if isinstance(node, kind):
                yield f"{file.name}:{getattr(node, 'lineno', 0)}", node


def tops():
    """Of each file its module's name and its topmost steps."""
    for file in files():
        yield f"barlabel.{file.stem}", ast.parse(file.read_text()).body


def names_bound(steps):
    for step in steps:
        if isinstance(step, (ast.FunctionDef, ast.ClassDef)):
            yield step.name
        elif isinstance(step, ast.Assign):
            yield step.targets[0].id


def imports(steps):
    for step in steps:
        if isinstance(step, ast.ImportFrom):
            for alias in step.names:
                yield step.module, alias.name


def is_plain_value(node):
    return isinstance(node, ast.Constant) and (node.value is None or isinstance(node.value, bool))


class Language(unittest.TestCase):
    def test_files(self):
        self.assertTrue(files())
        for path in FOLDER.iterdir():
            if path.name != "__pycache__":
                self.assertRegex(path.name, r"^[a-z0-9_]+\.py$")

    def test_rows(self):
        for file in files():
            text = file.read_text()
            self.assertRegex(text, r"\A[ -~\n]*\Z", file.name)
            self.assertIsNone(WORDS.search(text), file.name)
            self.assertLessEqual(len(text.splitlines()), 400, file.name)
            self.assertLessEqual(max(map(len, text.splitlines()), default=0), 120, file.name)

    def test_kinds_of_steps(self):
        for place, node in nodes():
            self.assertIsInstance(node, NODES, place)

    def test_imports_are_the_packages_own(self):
        for place, node in nodes(ast.ImportFrom):
            self.assertEqual(node.level, 0, place)
            self.assertTrue(node.module == "__future__" or node.module.startswith("barlabel."), place)
            self.assertNotIn("*", [alias.name for alias in node.names], place)
        for place, node in nodes(ast.Import):
            self.assertTrue(place.startswith("__main__.py"), place)

    def test_functions(self):
        for place, node in nodes(ast.FunctionDef):
            self.assertLessEqual(node.end_lineno - node.lineno + 1, 40, place)
            self.assertEqual(node.decorator_list, [], place)
            self.assertIsNone(node.args.vararg, place)
            self.assertIsNone(node.args.kwarg, place)
            self.assertEqual(node.args.kwonlyargs, [], place)
            self.assertEqual(node.args.posonlyargs, [], place)

    def test_classes(self):
        for place, node in nodes(ast.ClassDef):
            self.assertLessEqual(len(node.bases), 1, place)
            self.assertEqual(node.decorator_list + node.keywords, [], place)
            for part in node.body:
                self.assertIsInstance(part, (ast.FunctionDef, ast.Pass, ast.Expr), place)

    def test_statements(self):
        for place, node in nodes((ast.For, ast.While)):
            self.assertEqual(node.orelse, [], place)
        for place, node in nodes(ast.Assign):
            self.assertEqual(len(node.targets), 1, place)
        for place, node in nodes(ast.Try):
            self.assertEqual(node.finalbody, [], place)
        for place, node in nodes(ast.comprehension):
            self.assertLessEqual(len(node.ifs), 1, place)
        for place, node in nodes(ast.ListComp):
            self.assertEqual(len(node.generators), 1, place)

    def test_handlers_name_their_errors(self):
        for place, node in nodes(ast.ExceptHandler):
            self.assertIsNotNone(node.type, place)
            for part in ast.walk(node.type):
                if isinstance(part, ast.Name):
                    self.assertNotIn(part.id, ("Exception", "TypeError"), place)

    def test_is_stands_beside_none_true_and_false(self):
        for place, node in nodes(ast.Compare):
            if any(isinstance(sign, (ast.Is, ast.IsNot)) for sign in node.ops):
                self.assertTrue(is_plain_value(node.left) or is_plain_value(node.comparators[0]), place)

    def test_values(self):
        for place, node in nodes(ast.Constant):
            self.assertIn(type(node.value), (int, str, bool, type(None)), place)
            if isinstance(node.value, str):
                self.assertNotIn("%", node.value, place)
        for place, node in nodes(ast.FormattedValue):
            self.assertIsInstance(node.value, ast.Name, place)
            self.assertIsNone(node.format_spec, place)

    def test_names(self):
        for place, node in nodes(ast.Name):
            inside_main = place.startswith("__main__.py")
            allowed = OWN_NAMES | ({"print", "__name__"} if inside_main else set())
            if hasattr(builtins, node.id):
                self.assertIn(node.id, allowed, place)
                self.assertIsInstance(node.ctx, ast.Load, place)
            if not inside_main:
                self.assertTrue(node.id in DUNDERS or not node.id.startswith("_"), place)
        for place, node in nodes(ast.arg):
            self.assertFalse(hasattr(builtins, node.arg) or node.arg.startswith("_"), place)

    def test_methods_and_values_of_objects(self):
        own = {node.name for place, node in nodes(ast.FunctionDef)}
        own |= {node.attr for place, node in nodes(ast.Attribute) if isinstance(node.ctx, ast.Store)}
        for place, node in nodes(ast.Attribute):
            if not place.startswith("__main__.py"):
                self.assertIn(node.attr, own | METHODS | DUNDERS, place)

    def test_no_name_is_a_method_and_a_value(self):
        methods = {part.name for place, node in nodes(ast.ClassDef) for part in node.body
                   if isinstance(part, ast.FunctionDef)}
        values = {node.attr for place, node in nodes(ast.Attribute) if isinstance(node.ctx, ast.Store)}
        self.assertEqual(methods & values, set())

    def test_imports_are_drawn_from_the_file_that_defines_the_name(self):
        defined = {module: set(names_bound(steps)) for module, steps in tops()}
        for module, steps in tops():
            for source, name in imports(steps):
                self.assertIn(name, defined[source], module)

    def test_no_two_files_draw_from_one_another(self):
        drawn = {module: {source for source, name in imports(steps)} for module, steps in tops()}
        while drawn:
            free = [module for module in drawn if not drawn[module] & set(drawn)]
            self.assertTrue(free, drawn)
            for module in free:
                del drawn[module]

    def test_names_are_bound_once_and_not_hidden(self):
        for module, steps in tops():
            bound = list(names_bound(steps)) + [name for source, name in imports(steps)]
            self.assertEqual(len(bound), len(set(bound)), module)
            for step in steps:
                if isinstance(step, (ast.FunctionDef, ast.ClassDef)):
                    local = {node.id for node in ast.walk(step) if isinstance(node, ast.Name)
                             and isinstance(node.ctx, ast.Store)}
                    local |= {node.arg for node in ast.walk(step) if isinstance(node, ast.arg)}
                    self.assertEqual(local & set(bound), set(), module)

    def test_what_stands_at_the_top_holds_no_list_or_dict_within(self):
        for module, steps in tops():
            for step in steps:
                if isinstance(step, ast.Assign):
                    inner = [node for node in ast.walk(step.value) if node is not step.value]
                    self.assertFalse([node for node in inner if isinstance(node, (ast.List, ast.Dict))], module)

    def test_walks_are_not_kept(self):
        walks = ("zip", "enumerate", "reversed", "range", "items", "keys", "values")
        takers = ("list", "tuple", "dict", "sorted", "sum", "any", "all", "enumerate", "zip", "min", "max", "join")
        allowed = set()
        for place, node in nodes((ast.For, ast.comprehension, ast.Call)):
            if isinstance(node, (ast.For, ast.comprehension)):
                allowed.add(ast.dump(node.iter, include_attributes=True))
            elif getattr(node.func, "id", getattr(node.func, "attr", None)) in takers and node.args:
                allowed.add(ast.dump(node.args[0], include_attributes=True))
        for place, node in nodes(ast.Call):
            if getattr(node.func, "id", getattr(node.func, "attr", None)) in walks:
                self.assertIn(ast.dump(node, include_attributes=True), allowed, place)

    def test_sets_and_tries_are_not_needed(self):
        # So what is told of both needs no look here.
        for place, node in nodes((ast.Set, ast.Try)):
            self.fail(place)
        for place, node in nodes(ast.Name):
            self.assertNotIn(node.id, ("set", "frozenset"), place)


if __name__ == "__main__":
    unittest.main()

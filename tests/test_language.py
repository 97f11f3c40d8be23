"""The form of the package's own files: what can be seen by a walk through their trees."""

import ast
import builtins
import pathlib
import re
import unittest

PACKAGE = pathlib.Path(__file__).resolve().parent.parent / "hourhouse"
STAGES = (
    "errors names days", "rules joins listing ruletexts", "clocks places", "spans crowds", "things books",
    "letters tables", "views house", "texts sheets desk",
)
# Words that stand nowhere, and those that don't stand within longer ones either.
WORDS = (
    "type typing typing_extensions enum Enum IntEnum StrEnum Flag IntFlag Generic Protocol ABC ABCMeta namedtuple "
    "NamedTuple TypedDict TYPE_CHECKING abstractmethod"
).split()
PARTS = ("dataclass", "overload", "contextmanager")
NODES = (
    "Module FunctionDef ClassDef arguments arg Assign AugAssign If While For Return Break Continue Pass Raise Try "
    "ExceptHandler Expr Name Load Store Constant List Tuple Dict Set BinOp UnaryOp BoolOp Compare IfExp Call keyword "
    "Attribute Subscript Slice ListComp comprehension JoinedStr FormattedValue Lambda ImportFrom alias "
    "Add Sub Mult FloorDiv Mod Pow LShift RShift BitAnd BitOr BitXor Invert UAdd USub Not And Or "
    "Eq NotEq Lt LtE Gt GtE Is IsNot In NotIn"
).split()
OWN = (
    "len range enumerate zip min max sum abs sorted reversed int str bool list tuple dict set frozenset isinstance "
    "ord repr any all divmod Exception ValueError TypeError KeyError IndexError LookupError ZeroDivisionError "
    "ArithmeticError OverflowError RuntimeError NotImplementedError AttributeError StopIteration"
).split()
METHODS = (
    "append clear copy count endswith extend find get index insert isalnum isalpha isdigit islower isspace isupper "
    "items join keys ljust lower lstrip partition pop remove replace reverse rfind rjust rpartition rsplit rstrip "
    "setdefault split splitlines startswith strip update upper values zfill bit_length"
).split()
UNDERSCORED = ("__init__", "__eq__", "__repr__", "__str__", "__len__")


def files():
    return sorted(PACKAGE.glob("*.py"))


def trees():
    return [(path, ast.parse(path.read_text(encoding="ascii"))) for path in files()]


def nodes(kind):
    return [(path, node) for path, tree in trees() for node in ast.walk(tree) if isinstance(node, kind)]


def bound_in(tree):
    """Every name that a file binds somewhere."""
    found = []
    for node in ast.walk(tree):
        if isinstance(node, (ast.FunctionDef, ast.ClassDef)):
            found.append(node.name)
        elif isinstance(node, ast.arg):
            found.append(node.arg)
        elif isinstance(node, ast.Name) and isinstance(node.ctx, ast.Store):
            found.append(node.id)
        elif isinstance(node, ast.alias):
            found.append(node.name)
        elif isinstance(node, ast.ExceptHandler) and node.name:
            found.append(node.name)
    return found


class Files(unittest.TestCase):
    def test_nothing_else_lies_in_the_package(self):
        for path in PACKAGE.iterdir():
            if path.name != "__pycache__":
                self.assertRegex(path.name, r"\A([a-z][a-z0-9_]*|__init__)\.py\Z")

    def test_size_and_signs(self):
        for path in files():
            text = path.read_bytes().decode("ascii")
            self.assertRegex(text, r"\A[ -~\n]*\Z", path)
            self.assertLessEqual(len(text.splitlines()), 400, path)
            self.assertLessEqual(max(len(line) for line in text.splitlines()), 120, path)

    def test_words(self):
        for path in files():
            text = path.read_text()
            self.assertEqual([word for word in re.findall(r"\w+", text) if word in WORDS], [], path)
            self.assertEqual([part for part in PARTS if part in text], [], path)

    def test_functions_are_short(self):
        for path, node in nodes(ast.FunctionDef):
            self.assertLessEqual(node.end_lineno - node.lineno + 1, 40, (path, node.name))


class Trees(unittest.TestCase):
    def test_nodes(self):
        for path, node in nodes(ast.AST):
            self.assertIn(type(node).__name__, NODES, (path, getattr(node, "lineno", 0)))

    def test_imports_draw_from_earlier_stages_or_their_own_alone(self):
        stage_of = {name: stage for stage, row in enumerate(STAGES) for name in row.split()}
        for path, node in nodes(ast.ImportFrom):
            self.assertEqual(node.level, 0)
            self.assertRegex(node.module, r"\Ahourhouse\.[a-z]+\Z")
            drawn = stage_of.get(node.module.partition(".")[2], -1)
            self.assertLessEqual(drawn, stage_of.get(path.stem, len(STAGES)), path)
            self.assertEqual([alias.name for alias in node.names if alias.asname or alias.name == "*"], [])

    def test_names(self):
        for path, tree in trees():
            bound = bound_in(tree)
            for name in bound:
                self.assertTrue(name in UNDERSCORED or not name.startswith("_"), (path, name))
                self.assertNotIn(name, dir(builtins), path)
            for node in ast.walk(tree):
                if isinstance(node, ast.Name):
                    self.assertTrue(node.id in bound or node.id in OWN, (path, node.lineno, node.id))

    def test_locals_are_not_called_like_imports_or_classes(self):
        for path, tree in trees():
            top = [node.name for node in ast.walk(tree) if isinstance(node, (ast.ClassDef, ast.alias))]
            inner = [node.arg for node in ast.walk(tree) if isinstance(node, ast.arg)]
            inner += [node.id for node in ast.walk(tree) if isinstance(node, ast.Name) and type(node.ctx) is ast.Store]
            self.assertEqual([name for name in inner if name in top], [], path)

    def test_no_decorator_and_plain_parameters(self):
        for path, node in nodes((ast.FunctionDef, ast.ClassDef)):
            self.assertEqual(node.decorator_list, [])
        for path, node in nodes(ast.arguments):
            self.assertEqual((node.posonlyargs, node.kwonlyargs, node.vararg, node.kwarg), ([], [], None, None))
            for default in node.defaults:
                self.assertIsInstance(default, ast.Constant)

    def test_class_bodies_hold_methods_alone(self):
        for path, node in nodes(ast.ClassDef):
            self.assertLessEqual(len(node.bases), 1)
            for part in node.body:
                self.assertTrue(isinstance(part, ast.FunctionDef) or ast.get_docstring(node) and part is node.body[0])

    def test_no_name_is_a_method_and_a_value(self):
        methods = [part.name for path, node in nodes(ast.ClassDef) for part in node.body if hasattr(part, "name")]
        values = [node.attr for path, node in nodes(ast.Attribute) if isinstance(node.ctx, ast.Store)]
        self.assertEqual([name for name in values if name in methods], [])
        for path, node in nodes(ast.Call):
            if isinstance(node.func, ast.Attribute):
                self.assertIn(node.func.attr, methods + METHODS, (path, node.lineno))

    def test_no_method_or_value_is_called_like_one_of_pythons_own(self):
        taken = [name for kind in (str, int, list, dict, set, bytes) for name in dir(kind)]
        names = [part.name for path, node in nodes(ast.ClassDef) for part in node.body if hasattr(part, "name")]
        names += [node.attr for path, node in nodes(ast.Attribute) if isinstance(node.ctx, ast.Store)]
        self.assertEqual([name for name in names if name in taken and name not in UNDERSCORED], [])

    def test_sets_stand_within_sorted_alone(self):
        within = [
            part for path, node in nodes(ast.Call) if ast.unparse(node.func) == "sorted" for part in node.args]
        kept = [ast.dump(part) for part in within]
        for path, node in nodes(ast.Call):
            if ast.unparse(node.func) == "set":
                self.assertIn(ast.dump(node), kept, (path, node.lineno))
        self.assertEqual(nodes((ast.Set, ast.SetComp)), [])

    def test_errors_are_taken_by_their_own_names(self):
        own = [node.name for path, node in nodes(ast.ClassDef) if path.stem == "errors"]
        for path, node in nodes(ast.Try):
            for handler in node.handlers:
                name = ast.unparse(handler.type)
                if name != "ValueError":
                    self.assertIn(name, own, (path, node.lineno))
                    continue
                # Python's own is taken round a lone call of int or str.
                self.assertEqual(len(node.body), 1, (path, node.lineno))
                self.assertRegex(ast.unparse(node.body[0]), r"\Areturn (int|str)\([a-z]+\)\Z", (path, node.lineno))

    def test_expressions(self):
        for path, node in nodes(ast.Assign):
            self.assertEqual([isinstance(target, ast.Tuple) for target in node.targets], [False], (path, node.lineno))
        for path, node in nodes(ast.Constant):
            self.assertIn(type(node.value), (int, str, bool, type(None)), (path, node.lineno))
            self.assertNotIn("%", str(node.value), (path, node.lineno))
        for path, node in nodes(ast.BinOp):
            if isinstance(node.op, ast.Pow):
                self.assertIsInstance(node.right, ast.Constant, (path, node.lineno))
        for path, node in nodes(ast.FormattedValue):
            self.assertIsInstance(node.value, ast.Name, (path, node.lineno))
            self.assertIsNone(node.format_spec, (path, node.lineno))
        for path, node in nodes(ast.Compare):
            for op, side in zip(node.ops, node.comparators):
                if isinstance(op, (ast.Is, ast.IsNot)):
                    self.assertIn(ast.unparse(side), ("None", "True", "False"), (path, node.lineno))
        for path, node in nodes((ast.For, ast.While)):
            self.assertEqual(node.orelse, [], (path, node.lineno))
        for path, node in nodes(ast.Try):
            self.assertEqual(node.finalbody, [], (path, node.lineno))

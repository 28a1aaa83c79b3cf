"""Whether the package's files keep to the small part of Python they are held to, as far as a look at them tells."""

import ast
import builtins
import pathlib
import re
import unittest

PACKAGE = pathlib.Path(__file__).resolve().parent.parent / "mostrows"
OWN_NAMES = set("""len range enumerate zip min max sum abs sorted reversed int str bool list tuple dict set frozenset
    isinstance ord repr any all divmod Exception ValueError TypeError KeyError IndexError LookupError
    ZeroDivisionError ArithmeticError OverflowError RuntimeError NotImplementedError AttributeError
    StopIteration""".split())
METHODS = set("""append clear copy count endswith extend find get index insert isalnum isalpha isdigit islower isspace
    isupper items join keys ljust lower lstrip partition pop remove replace reverse rfind rjust rpartition rsplit
    rstrip setdefault split splitlines startswith strip update upper values zfill bit_length""".split())
BARRED_WORDS = set("""type typing typing_extensions enum Enum IntEnum StrEnum Flag IntFlag Generic Protocol ABC ABCMeta
    namedtuple NamedTuple TypedDict TYPE_CHECKING abstractmethod""".split())
NODES = set("""Module FunctionDef ClassDef arguments arg Return Assign AugAssign For While If Raise Try ExceptHandler
    ImportFrom alias Expr Pass Break Continue BoolOp And Or BinOp Add Sub Mult FloorDiv Mod Pow LShift RShift BitOr
    BitXor BitAnd UnaryOp Not USub UAdd Invert Lambda IfExp Dict ListComp comprehension Compare Eq NotEq Lt LtE Gt
    GtE Is IsNot In NotIn Call keyword FormattedValue JoinedStr Constant Attribute Subscript Slice Name List Tuple
    Load Store""".split())
TOP = (ast.FunctionDef, ast.ClassDef, ast.ImportFrom, ast.Assign)
LAZY = ("zip", "enumerate", "reversed", "range", "items", "keys", "values")


def files():
    return sorted(PACKAGE.glob("*.py"))


def trees():
    return [(path, ast.parse(path.read_text())) for path in files()]


def found(kind):
    return [(path, node) for path, tree in trees() for node in ast.walk(tree) if isinstance(node, kind)]


def stored_in(tree):
    names = [node.id for node in ast.walk(tree) if isinstance(node, ast.Name) and isinstance(node.ctx, ast.Store)]
    return names + [node.arg for node in ast.walk(tree) if isinstance(node, ast.arg)]


def defined_in(tree):
    names = [node.name for node in tree.body if isinstance(node, (ast.FunctionDef, ast.ClassDef))]
    return names + [target.id for node in tree.body if isinstance(node, ast.Assign) for target in node.targets]


def imports_in(tree):
    return [(node.module, alias) for node in tree.body if isinstance(node, ast.ImportFrom) for alias in node.names]


class Files(unittest.TestCase):
    def test_names_and_signs(self):
        for path in PACKAGE.iterdir():
            if path.name != "__pycache__":
                self.assertRegex(path.name, r"^([a-z][a-z0-9_]*|__init__|__main__)\.py$")
                self.assertNotIn(path.stem, set(dir(builtins)) | BARRED_WORDS)
                self.assertRegex(path.read_bytes(), rb"\A[ -~\n]*\Z", path)

    def test_sizes(self):
        for path in files():
            lines = path.read_text().splitlines()
            self.assertLessEqual(len(lines), 400, path)
            self.assertLessEqual(max(len(line) for line in lines), 120, path)
        for path, node in found(ast.FunctionDef):
            self.assertLessEqual(node.end_lineno - node.lineno + 1, 40, (path, node.name))

    def test_barred_words(self):
        for path in files():
            text = path.read_text()
            self.assertEqual(set(re.findall(r"\w+", text)) & BARRED_WORDS, set(), path)
            self.assertNotRegex(text, "dataclass|overload|contextmanager")


class Forms(unittest.TestCase):
    def test_nodes(self):
        for path, node in found(ast.AST):
            self.assertIn(node.__class__.__name__, NODES, (path, vars(node)))

    def test_the_top_of_a_file(self):
        for path, tree in trees():
            self.assertIsNotNone(ast.get_docstring(tree), path)
            for node in tree.body[1:]:
                self.assertIsInstance(node, TOP, path)
            names = defined_in(tree) + [alias.name for module, alias in imports_in(tree)]
            self.assertEqual(len(names), len(set(names)), path)

    def test_imports(self):
        drawn = {}
        defined = {f"mostrows.{path.stem}": defined_in(tree) for path, tree in trees()}
        for path, tree in trees():
            for module, alias in imports_in(tree):
                self.assertIn(alias.name, defined[module], path)
                self.assertIsNone(alias.asname)
            drawn[f"mostrows.{path.stem}"] = {module for module, alias in imports_in(tree)}
        while drawn:
            free = [module for module in drawn if not drawn[module] & set(drawn)]
            self.assertTrue(free, f"these draw from one another: {sorted(drawn)}")
            drawn = {module: drawn[module] for module in drawn if module not in free}

    def test_defs_and_classes(self):
        for path, node in found(ast.FunctionDef):
            self.assertEqual(node.decorator_list, [], path)
            self.assertIsNone(node.args.vararg or node.args.kwarg or None, path)
            self.assertEqual(node.args.kwonlyargs + node.args.posonlyargs, [], path)
        for path, node in found(ast.ClassDef):
            self.assertEqual(node.decorator_list, [], path)
            self.assertLessEqual(len(node.bases), 1, path)
            for part in node.body:
                self.assertIsInstance(part, (ast.FunctionDef, ast.Pass), path)

    def test_a_call_by_itself(self):
        for path, tree in trees():
            for node in ast.walk(tree):
                if isinstance(node, ast.Expr) and node is not tree.body[0]:
                    self.assertIsInstance(node.value, ast.Call, (path, node.lineno))

    def test_loops_comprehensions_and_targets(self):
        for path, node in found((ast.For, ast.While)):
            self.assertEqual(node.orelse, [], (path, node.lineno))
        for path, node in found(ast.ListComp):
            self.assertEqual(len(node.generators), 1, (path, node.lineno))
            self.assertLessEqual(len(node.generators[0].ifs), 1, (path, node.lineno))
        for path, node in found(ast.Assign):
            self.assertEqual(len(node.targets), 1, (path, node.lineno))
        for path, node in found(ast.Try):
            self.assertEqual(node.finalbody, [], (path, node.lineno))

    def test_is_stands_beside_none_and_truths(self):
        for path, node in found(ast.Compare):
            for sign, right in zip(node.ops, node.comparators):
                if isinstance(sign, (ast.Is, ast.IsNot)):
                    self.assertIsInstance(right, ast.Constant, (path, node.lineno))
                    self.assertIn(right.value, (None, True, False))

    def test_values(self):
        for path, node in found(ast.Constant):
            self.assertIn(node.value.__class__, (int, str, bool, None.__class__), path)
            if isinstance(node.value, str):
                self.assertNotIn("%", node.value, path)
        for path, node in found(ast.FormattedValue):
            self.assertIsInstance(node.value, ast.Name, path)
            self.assertIsNone(node.format_spec, path)

    def test_powers_have_a_written_exponent(self):
        for path, node in found((ast.BinOp, ast.AugAssign)):
            if isinstance(node.op, ast.Pow):
                exponent = node.right if isinstance(node, ast.BinOp) else node.value
                self.assertIsInstance(exponent, ast.Constant, (path, node.lineno))
                self.assertTrue(0 <= exponent.value <= 64, (path, node.lineno))


class Names(unittest.TestCase):
    def test_bound_names(self):
        for path, tree in trees():
            imported = {alias.name for module, alias in imports_in(tree)}
            classes = {node.name for node in tree.body if isinstance(node, ast.ClassDef)}
            for name in stored_in(tree) + defined_in(tree):
                self.assertRegex(name, "^[A-Za-z][A-Za-z0-9_]*$", path)
                self.assertNotIn(name, dir(builtins), path)
            self.assertEqual((imported | classes) & set(stored_in(tree)), set(), path)

    def test_names_that_are_read(self):
        for path, tree in trees():
            known = set(stored_in(tree) + defined_in(tree)) | {alias.name for module, alias in imports_in(tree)}
            handlers = [node.name for node in ast.walk(tree) if isinstance(node, ast.ExceptHandler) and node.name]
            for node in ast.walk(tree):
                if isinstance(node, ast.Name):
                    self.assertIn(node.id, known | OWN_NAMES | set(handlers), (path, node.lineno))

    def test_methods(self):
        for path, node in found(ast.Call):
            if isinstance(node.func, ast.Attribute) and node.func.attr != "__init__":
                self.assertIn(node.func.attr, METHODS, (path, node.lineno))

    def test_own_names_are_called_not_kept(self):
        for path, tree in trees():
            called = [node.func for node in ast.walk(tree) if isinstance(node, ast.Call)]
            keyed = [node.value for node in ast.walk(tree) if isinstance(node, ast.keyword) and node.arg == "key"]
            for node in ast.walk(tree):
                if isinstance(node, ast.Name) and node.id in OWN_NAMES and node.id[0].islower():
                    inside = node.id in ("int", "str", "bool", "list", "tuple", "dict")
                    self.assertTrue(inside or node in called or node in keyed, (path, node.lineno))

    def test_sets_and_lazy_values_are_used_on_the_spot(self):
        for path, tree in trees():
            for node in ast.walk(tree):
                if isinstance(node, ast.Assign) and isinstance(node.value, ast.Call):
                    made = node.value.func
                    name = made.id if isinstance(made, ast.Name) else made.attr
                    self.assertNotIn(name, LAZY + ("set", "frozenset"), (path, node.lineno))

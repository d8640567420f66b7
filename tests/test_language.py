"""The package keeps to the small part of Python that it is written in, as far as a walk over its trees can tell."""

import ast
import builtins
import pathlib
import re
import unittest

PACKAGE = pathlib.Path(__file__).resolve().parent.parent / "duehall"

NODES = """Module FunctionDef ClassDef arguments arg Assign AugAssign If While For Return Break Continue Pass Raise Try
ExceptHandler Expr Constant Name Load Store List Tuple Dict Set BinOp UnaryOp BoolOp Compare IfExp Call Attribute
Subscript Slice ListComp comprehension JoinedStr FormattedValue Lambda keyword ImportFrom alias Add Sub Mult FloorDiv
Mod Pow BitAnd BitOr BitXor LShift RShift Invert USub UAdd Not And Or Eq NotEq Lt LtE Gt GtE Is IsNot In
NotIn""".split()
OWN_NAMES = """len range enumerate zip min max sum abs sorted reversed int str bool list tuple dict set frozenset isinstance
ord repr any all divmod Exception ValueError TypeError KeyError IndexError LookupError ZeroDivisionError
ArithmeticError OverflowError RuntimeError NotImplementedError StopIteration""".split()
METHODS = """append clear copy count endswith extend find get index insert isalnum isalpha isdigit islower isspace isupper
items join keys ljust lower lstrip partition pop remove replace reverse rfind rjust rpartition rsplit rstrip
setdefault split splitlines startswith strip update upper values zfill bit_length""".split()
OUT_WORDS = """type typing typing_extensions enum Enum IntEnum StrEnum Flag IntFlag Generic Protocol ABC ABCMeta
namedtuple NamedTuple TypedDict TYPE_CHECKING abstractmethod""".split()
OUT_NAMES = """register mro elements open input version_info with_traceback add_note format format_map""".split()
# No value of an object is called like these, nor like what Python's own values have, but for the ones behind.
KINDS = (str, int, list, dict, set, bytes, tuple)
FREE_VALUES = "count index title find get join lower upper split strip copy add".split()
TWO_UNDERSCORES = ("__init__", "__eq__", "__repr__", "__str__", "__len__")


def files():
    return sorted(path for path in PACKAGE.iterdir() if path.name != "__pycache__")


def walk(path, *kinds):
    tree = ast.parse(path.read_text())
    return [node for node in ast.walk(tree) if not kinds or isinstance(node, kinds)]


def drawn(path):
    return [node.module.rpartition(".")[2] for node in walk(path, ast.ImportFrom)]


def bound_names(path):
    names = [node.id for node in walk(path, ast.Name) if isinstance(node.ctx, ast.Store)]
    names += [node.arg for node in walk(path, ast.arg)]
    return names + [node.name for node in walk(path, ast.FunctionDef, ast.ClassDef)]


def given_values(path):
    return {node.attr for node in walk(path, ast.Attribute) if isinstance(node.ctx, ast.Store)}


def own_methods(path):
    return {node.name for made in walk(path, ast.ClassDef) for node in made.body if isinstance(node, ast.FunctionDef)}


def docstrings(path):
    return [node.name for node in walk(path, ast.FunctionDef, ast.ClassDef) if ast.get_docstring(node) is not None]


def walked_lazily(path):
    """Calls of range and its like that are assigned or given back, not walked on the spot."""
    kept = [node.value for node in walk(path, ast.Assign, ast.Return)]
    return [node for node in kept if isinstance(node, ast.Call) and isinstance(node.func, ast.Name)
            and node.func.id in ("range", "zip", "enumerate", "reversed", "set")]


class Language(unittest.TestCase):
    def test_files(self):
        self.assertTrue((PACKAGE / "__init__.py").is_file())
        for path in files():
            self.assertRegex(path.name, r"\A(__init__|__main__|[a-z][a-z0-9_]*)\.py\Z")
            self.assertFalse(hasattr(builtins, path.stem) and path.stem[0] != "_", path)

    def test_signs_words_and_sizes(self):
        for path in files():
            text = path.read_bytes().decode("ascii")
            self.assertRegex(text, r"\A[ -~\n]*\Z")
            self.assertLessEqual(text.count("\n"), 400)
            self.assertLessEqual(max(len(row) for row in text.split("\n")), 120)
            self.assertEqual(set(re.findall(r"\w+", text)) & set(OUT_WORDS), set())
            self.assertNotRegex(text, "dataclass|overload|contextmanager")
            for node in walk(path, ast.FunctionDef):
                self.assertLessEqual(node.end_lineno - node.lineno + 1, 40, node.name)

    def test_nodes(self):
        for path in files():
            self.assertEqual({type(node).__name__ for node in walk(path)} - set(NODES), set())

    def test_top_of_files(self):
        for path in files():
            for place, node in enumerate(ast.parse(path.read_text()).body):
                if isinstance(node, ast.Expr):
                    self.assertEqual(place, 0)
                else:
                    self.assertIsInstance(node, (ast.ImportFrom, ast.FunctionDef, ast.ClassDef, ast.Assign))

    def test_imports(self):
        for path in files():
            for node in walk(path, ast.ImportFrom):
                self.assertEqual((node.level, node.col_offset), (0, 0))
                self.assertRegex(node.module, r"\Aduehall\.[a-z_]+\Z")
                self.assertNotIn("*", [name.name for name in node.names])

    def test_no_two_files_draw_from_one_another(self):
        left = {path.stem: drawn(path) for path in files()}
        while left:
            ready = [name for name in left if not set(left[name]) & set(left)]
            self.assertTrue(ready, left)
            left = {name: left[name] for name in left if name not in ready}

    def test_functions_and_statements(self):
        for path in files():
            for node in walk(path, ast.FunctionDef, ast.ClassDef):
                self.assertEqual(node.decorator_list, [])
            for node in walk(path, ast.arguments):
                self.assertEqual((node.vararg, node.kwarg, node.kwonlyargs, node.posonlyargs), (None, None, [], []))
            for node in walk(path, ast.Assign):
                self.assertEqual(len(node.targets), 1)
            for node in walk(path, ast.For, ast.While):
                self.assertEqual(node.orelse, [])
            for node in walk(path, ast.Constant):
                self.assertIsInstance(node.value, (int, str, type(None)))

    def test_names(self):
        for path in files():
            for name in bound_names(path):
                if name not in TWO_UNDERSCORES:
                    self.assertRegex(name, r"\A[A-Za-z]\w*\Z")
                    self.assertFalse(hasattr(builtins, name), name)
                self.assertNotIn(name, OUT_NAMES)
            for node in walk(path, ast.Name):
                self.assertTrue(node.id in OWN_NAMES or not hasattr(builtins, node.id), node.id)

    def test_attributes(self):
        own = set()
        for path in files():
            own |= set(bound_names(path))
            own |= {node.attr for node in walk(path, ast.Attribute) if isinstance(node.ctx, ast.Store)}
        for path in files():
            for node in walk(path, ast.Attribute):
                self.assertIn(node.attr, own | set(METHODS))
                self.assertNotIn(node.attr, OUT_NAMES)

    def test_values_and_methods_of_objects(self):
        values = set().union(*[given_values(path) for path in files()])
        methods = set().union(*[own_methods(path) for path in files()])
        self.assertEqual(values & methods, set())
        for name in values - set(FREE_VALUES):
            self.assertFalse(any(hasattr(kind, name) for kind in KINDS), name)
        for name in methods - set(TWO_UNDERSCORES) - set(METHODS) - {"add", "discard"}:
            self.assertFalse(any(hasattr(kind, name) for kind in KINDS), name)

    def test_classes(self):
        for path in files():
            for made in walk(path, ast.ClassDef):
                self.assertLessEqual(len(made.bases), 1)
                for node in made.body:
                    self.assertIsInstance(node, (ast.FunctionDef, ast.Pass))

    def test_remarks_stand_at_the_top_of_files_alone(self):
        for path in files():
            self.assertEqual(docstrings(path), [])

    def test_walked_at_once(self):
        for path in files():
            self.assertEqual(walked_lazily(path), [])

    def test_is_stands_beside_none_true_and_false_alone(self):
        for path in files():
            for node in walk(path, ast.Compare):
                for operator, right in zip(node.ops, node.comparators):
                    if isinstance(operator, (ast.Is, ast.IsNot)):
                        self.assertIsInstance(right, ast.Constant)
                        self.assertIn(right.value, (None, True, False))

    def test_no_local_is_called_like_an_import_or_a_class(self):
        for path in files():
            taken = {name.asname or name.name for node in walk(path, ast.ImportFrom) for name in node.names}
            taken |= {node.name for node in walk(path, ast.ClassDef)}
            for node in walk(path, ast.Name):
                self.assertFalse(isinstance(node.ctx, ast.Store) and node.id in taken, node.id)
            for node in walk(path, ast.arg):
                self.assertNotIn(node.arg, taken)


if __name__ == "__main__":
    unittest.main()

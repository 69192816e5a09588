"""The package keeps to the part of Python that ../shared/LANGUAGE.md tells, as far as that is seen by form."""

import ast
import builtins
import pathlib
import re
import unittest

PACKAGE = pathlib.Path(__file__).resolve().parent.parent / "linesaid"

OWN_NAMES = """
    len range enumerate zip min max sum abs sorted reversed int str bool list tuple dict set isinstance ord repr
    any all divmod Exception ValueError TypeError KeyError IndexError LookupError ZeroDivisionError ArithmeticError
    OverflowError RuntimeError NotImplementedError AttributeError StopIteration
""".split()

OWN_METHODS = """
    append clear copy count endswith extend find get index insert isalnum isalpha isdigit islower isspace isupper
    items join keys ljust lower lstrip partition pop remove replace reverse rfind rjust rpartition rsplit rstrip
    setdefault split splitlines startswith strip update upper values zfill bit_length add discard
""".split()

TWO_UNDERSCORES = "__init__ __eq__ __repr__ __str__ __len__ __all__ __version__".split()

WORDS_NOWHERE = """
    type typing typing_extensions enum Enum IntEnum StrEnum Flag IntFlag Generic Protocol ABC ABCMeta namedtuple
    NamedTuple TypedDict TYPE_CHECKING abstractmethod
""".split()

# What is not kept but walked at once, and the calls within which it may stand.
WALKED = "zip enumerate reversed range items keys values".split()
WALKERS = "list tuple dict sorted sum any all enumerate zip min max".split()

NODES = """
    Module Expr ImportFrom alias FunctionDef ClassDef arguments arg Lambda Return Assign AugAssign If While For Break
    Continue Pass Raise Try ExceptHandler Constant Name Attribute Subscript Slice Call keyword List Tuple Dict
    Set ListComp comprehension IfExp BoolOp And Or UnaryOp Not USub UAdd Invert BinOp Add Sub Mult FloorDiv Mod Pow
    LShift RShift BitOr BitXor BitAnd Compare Eq NotEq Lt LtE Gt GtE Is IsNot In NotIn JoinedStr FormattedValue
    Load Store
""".split()


def files():
    return sorted(path for path in PACKAGE.rglob("*") if "__pycache__" not in path.parts)


def methods_of_python():
    found = set()
    for kind in (str, int, list, tuple, dict, set, bytes):
        found.update(name for name in dir(kind) if not name.startswith("__"))
    return found


class LanguageTest(unittest.TestCase):
    def walk(self):
        for path in files():
            for node in ast.walk(ast.parse(path.read_text())):
                where = f"{path.name}:{getattr(node, 'lineno', 0)} {type(node).__name__}"
                yield where, node

    def test_files_and_signs(self):
        self.assertIn(PACKAGE / "__init__.py", files())
        for path in files():
            self.assertRegex(path.name, r"^([a-z][a-z0-9_]*|__init__)\.py$")
            text = path.read_text()
            self.assertRegex(text, r"\A[ -~\n]*\Z", path.name)
            rows = text.split("\n")
            self.assertLessEqual(len(rows), 400, path.name)
            self.assertLessEqual(max(len(row) for row in rows), 120, path.name)

    def test_words_that_stand_nowhere(self):
        for path in files():
            words = re.findall(r"\w+", path.read_text())
            self.assertEqual([word for word in words if word in WORDS_NOWHERE], [], path.name)
            self.assertNotRegex(path.read_text(), "dataclass|overload|contextmanager", path.name)

    def test_nodes(self):
        for where, node in self.walk():
            self.assertIn(type(node).__name__, NODES, where)

    def test_the_top_of_a_file(self):
        for path in files():
            body = ast.parse(path.read_text()).body
            self.assertIsInstance(body[0], ast.Expr, path.name)
            for node in body[1:]:
                self.assertIsInstance(node, (ast.ImportFrom, ast.FunctionDef, ast.ClassDef, ast.Assign), path.name)

    def test_imports(self):
        for where, node in self.walk():
            if isinstance(node, ast.ImportFrom):
                self.assertEqual(node.level, 0, where)
                self.assertTrue((PACKAGE.parent / (node.module.replace(".", "/") + ".py")).is_file(), where)
                self.assertNotIn("*", [name.name for name in node.names], where)

    def test_no_two_files_draw_from_one_another(self):
        draws = {}
        for path in files():
            body = ast.parse(path.read_text()).body
            draws["linesaid." + path.stem] = [node.module for node in body if isinstance(node, ast.ImportFrom)]
        while draws:
            free = [name for name in draws if not any(drawn in draws for drawn in draws[name])]
            self.assertTrue(free, sorted(draws))
            for name in free:
                del draws[name]

    def test_functions(self):
        for where, node in self.walk():
            if isinstance(node, ast.FunctionDef):
                self.assertLessEqual(node.end_lineno - node.lineno + 1, 40, where)
                self.assertEqual(node.decorator_list, [], where)
            if isinstance(node, ast.arguments):
                self.assertEqual((node.vararg, node.kwarg), (None, None), where)
                self.assertEqual((node.kwonlyargs, node.posonlyargs), ([], []), where)

    def test_classes(self):
        for where, node in self.walk():
            if isinstance(node, ast.ClassDef):
                self.assertEqual((node.decorator_list, node.keywords), ([], []), where)
                self.assertLessEqual(len(node.bases), 1, where)
                for part in node.body:
                    self.assertIsInstance(part, (ast.FunctionDef, ast.Pass), where)

    def test_names(self):
        for where, node in self.walk():
            if isinstance(node, ast.Name):
                self.assertFalse(node.id.startswith("_") and node.id not in TWO_UNDERSCORES, where)
                if hasattr(builtins, node.id):
                    self.assertIn(node.id, OWN_NAMES, where)
                    self.assertIsInstance(node.ctx, ast.Load, where)
            if isinstance(node, ast.arg):
                self.assertFalse(node.arg.startswith("_") or hasattr(builtins, node.arg), where)
            if isinstance(node, (ast.FunctionDef, ast.ClassDef)):
                self.assertFalse(node.name.startswith("_") and node.name not in TWO_UNDERSCORES, where)

    def test_no_local_is_called_like_an_import_or_a_class(self):
        for path in files():
            tree = ast.parse(path.read_text())
            taken = [node.name for node in tree.body if isinstance(node, ast.ClassDef)]
            for node in tree.body:
                if isinstance(node, ast.ImportFrom):
                    taken.extend(name.asname or name.name for name in node.names)
            for node in ast.walk(tree):
                if isinstance(node, ast.arg):
                    self.assertNotIn(node.arg, taken, path.name)
                if isinstance(node, ast.Name) and isinstance(node.ctx, ast.Store):
                    self.assertNotIn(node.id, taken, path.name)

    def test_no_name_is_a_method_and_a_value(self):
        methods = set()
        values = set()
        for where, node in self.walk():
            if isinstance(node, ast.ClassDef):
                methods.update(part.name for part in node.body if isinstance(part, ast.FunctionDef))
            if isinstance(node, ast.Attribute) and isinstance(node.ctx, ast.Store):
                values.add(node.attr)
        self.assertEqual(methods & values, set())

    def test_what_is_walked_on_the_spot(self):
        kept = []
        for path in files():
            tree = ast.parse(path.read_text())
            walked = set()
            for node in ast.walk(tree):
                if isinstance(node, (ast.For, ast.comprehension)):
                    walked.add(node.iter)
                if isinstance(node, ast.Call) and isinstance(node.func, ast.Name) and node.func.id in WALKERS:
                    walked.update(node.args)
            for node in ast.walk(tree):
                if isinstance(node, ast.Call) and node not in walked:
                    name = getattr(node.func, "id", None) or getattr(node.func, "attr", None)
                    if name in WALKED:
                        kept.append(f"{path.name}:{node.lineno} {name}")
        self.assertEqual(kept, [])

    def test_sets(self):
        for path in files():
            for number, row in enumerate(path.read_text().split("\n"), start=1):
                for found in re.finditer(r"\b(?:frozen)?set\(", row):
                    ahead = row[:found.start()]
                    self.assertRegex(ahead, r"(sorted\(|len\(| in |== |!= |[-&|^] )$", f"{path.name}:{number}")

    def test_attributes(self):
        others = methods_of_python() - set(OWN_METHODS)
        for where, node in self.walk():
            if isinstance(node, ast.Attribute):
                self.assertNotIn(node.attr, others, where)
                self.assertFalse(node.attr.startswith("_") and node.attr not in TWO_UNDERSCORES, where)

    def test_values(self):
        for where, node in self.walk():
            if isinstance(node, ast.Constant):
                self.assertIn(type(node.value), (int, str, bool, type(None)), where)
                self.assertFalse(isinstance(node.value, str) and "%" in node.value, where)

    def test_exponents_are_written_out(self):
        for where, node in self.walk():
            if isinstance(node, ast.BinOp) and isinstance(node.op, ast.Pow):
                self.assertIsInstance(node.right, ast.Constant, where)
                self.assertIn(node.right.value, range(65), where)

    def test_statements(self):
        for where, node in self.walk():
            if isinstance(node, ast.Assign):
                self.assertEqual(len(node.targets), 1, where)
                self.assertNotIsInstance(node.targets[0], (ast.Tuple, ast.List), where)
            if isinstance(node, (ast.For, ast.While)):
                self.assertEqual(node.orelse, [], where)
            if isinstance(node, ast.Try):
                self.assertEqual(node.finalbody, [], where)
            if isinstance(node, ast.ExceptHandler):
                self.assertIsNotNone(node.type, where)
            if isinstance(node, ast.Expr) and not isinstance(node.value, ast.Call):
                self.assertIsInstance(node.value, ast.Constant, where)
                self.assertIsInstance(node.value.value, str, where)

    def test_is(self):
        for where, node in self.walk():
            if isinstance(node, ast.Compare) and any(isinstance(op, (ast.Is, ast.IsNot)) for op in node.ops):
                self.assertEqual(len(node.ops), 1, where)
                self.assertIsInstance(node.comparators[0], ast.Constant, where)
                self.assertIn(node.comparators[0].value, (None, True, False), where)

    def test_comprehensions(self):
        for where, node in self.walk():
            if isinstance(node, ast.ListComp):
                self.assertEqual(len(node.generators), 1, where)
                self.assertLessEqual(len(node.generators[0].ifs), 1, where)


if __name__ == "__main__":
    unittest.main()

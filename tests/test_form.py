"""The package keeps to a small part of Python: the rules that can be told from its files alone."""

import ast
import builtins
import pathlib
import re
import unittest

PACKAGE = pathlib.Path(__file__).resolve().parent.parent / "optionwood"

NODES = (
    "Module Import ImportFrom alias FunctionDef ClassDef Lambda arguments arg keyword Assign AugAssign If While For "
    "Return Break Continue Pass Raise Try ExceptHandler Expr Call Attribute Subscript Slice Name Load Store Constant "
    "List Tuple Dict Set ListComp comprehension JoinedStr FormattedValue IfExp BoolOp And Or BinOp UnaryOp Not USub "
    "UAdd Invert Add Sub Mult FloorDiv Mod Pow LShift RShift BitOr BitAnd BitXor Compare Eq NotEq Lt LtE Gt GtE In "
    "NotIn Is IsNot"
).split()
BUILT_IN = (
    "len range enumerate zip min max sum abs sorted reversed int str bool list tuple dict set frozenset isinstance "
    "ord repr any all divmod Exception ValueError TypeError KeyError IndexError LookupError ZeroDivisionError "
    "ArithmeticError OverflowError RuntimeError NotImplementedError StopIteration"
).split()
METHODS = (
    "append clear copy count endswith extend find get index insert isalnum isalpha isdigit islower isspace isupper "
    "items join keys ljust lower lstrip partition pop remove replace reverse rfind rjust rpartition rsplit rstrip "
    "setdefault split splitlines startswith strip update upper values zfill bit_length"
).split()
OWN_DOUBLE = ("__init__", "__eq__", "__repr__", "__str__", "__len__")
BARRED_WORDS = (
    r"\b(type|typing|typing_extensions|enum|Enum|IntEnum|StrEnum|Flag|IntFlag|Generic|Protocol|ABC|ABCMeta|"
    r"namedtuple|NamedTuple|TypedDict|TYPE_CHECKING|abstractmethod)\b|dataclass|overload|contextmanager"
)
BARRED_NAMES = (
    "register mro elements open input version_info with_traceback add_note attrgetter breakpoint builtins compile "
    "copyright credits delattr dir eval exec exit gc getattr globals hasattr help id importlib license locals "
    "methodcaller os quit setattr super type vars sys chr format format_map"
).split()


def files():
    return sorted(PACKAGE.rglob("*.py"))


def functions(tree):
    return [node for node in ast.walk(tree) if isinstance(node, ast.FunctionDef)]


def bound_names(tree):
    names = [node.id for node in ast.walk(tree) if isinstance(node, ast.Name) and isinstance(node.ctx, ast.Store)]
    names += [node.arg for node in ast.walk(tree) if isinstance(node, ast.arg)]
    return names + [node.name for node in ast.walk(tree) if isinstance(node, (ast.FunctionDef, ast.ClassDef))]


def imported_names(tree):
    return [name.name for node in ast.walk(tree) if isinstance(node, ast.ImportFrom) for name in node.names]


def class_names(tree):
    return [node.name for node in ast.walk(tree) if isinstance(node, ast.ClassDef)]


class FormTest(unittest.TestCase):
    def test_files_of_the_package(self):
        for path in PACKAGE.rglob("*"):
            if path.name == "__pycache__" or path.parent.name == "__pycache__":
                continue
            self.assertRegex(path.name, r"^(__init__|[a-z][a-z0-9_]*)\.py$")
            self.assertNotRegex(path.stem, r"^(test.*|site|conftest|sitecustomize|usercustomize)$")
        self.assertIn(PACKAGE / "__init__.py", files())

    def test_signs_and_sizes(self):
        for path in files():
            text = path.read_text(encoding="utf-8")
            self.assertRegex(text, r"\A[ -~\n]*\Z", path.name)
            self.assertNotRegex(text, BARRED_WORDS, path.name)
            self.assertLessEqual(len(text.splitlines()), 400, path.name)
            self.assertLessEqual(max(len(line) for line in text.splitlines()), 120, path.name)
            for node in functions(ast.parse(text)):
                self.assertLessEqual(node.end_lineno - node.lineno + 1, 40, (path.name, node.name))

    def test_each_file(self):
        for path in files():
            with self.subTest(path.name):
                tree = ast.parse(path.read_text(encoding="utf-8"))
                self.check_nodes(tree)
                self.check_imports(tree)
                self.check_names(tree)
                self.check_calls(tree)

    def check_nodes(self, tree):
        docstring = tree.body[0]
        for node in ast.walk(tree):
            where = getattr(node, "lineno", 0)
            self.assertIn(type(node).__name__, NODES, where)
            if isinstance(node, ast.Expr) and node is not docstring:
                self.assertIsInstance(node.value, ast.Call, where)
            if isinstance(node, ast.Assign):
                self.assertEqual(len(node.targets), 1, where)
                self.assertNotIsInstance(node.targets[0], (ast.Tuple, ast.List), where)
            if isinstance(node, (ast.For, ast.While)):
                self.assertEqual(node.orelse, [], where)
            if isinstance(node, ast.Try):
                self.assertEqual(node.finalbody, [], where)
            if isinstance(node, ast.Constant):
                self.assertIsInstance(node.value, (int, str, type(None)), where)
            if isinstance(node, ast.BinOp) and isinstance(node.op, ast.Pow):
                self.assertIsInstance(node.right, ast.Constant, where)
            if isinstance(node, ast.ListComp):
                self.assertEqual(len(node.generators), 1, where)
                self.assertLessEqual(len(node.generators[0].ifs), 1, where)
            if isinstance(node, ast.FormattedValue):
                self.assertIsInstance(node.value, ast.Name, where)
            if isinstance(node, (ast.FunctionDef, ast.ClassDef)):
                self.assertEqual(node.decorator_list, [], where)
            if isinstance(node, ast.arguments):
                self.assertEqual((node.vararg, node.kwarg, node.kwonlyargs, node.posonlyargs), (None, None, [], []))

    def check_imports(self, tree):
        for node in ast.walk(tree):
            self.assertNotIsInstance(node, ast.Import)
            if isinstance(node, ast.ImportFrom):
                self.assertEqual(node.level, 0)
                self.assertRegex(node.module, r"^optionwood\.[a-z_]+$")
                source = PACKAGE / (node.module.split(".")[1] + ".py")
                defined = ast.parse(source.read_text(encoding="utf-8")).body
                own = bound_names(ast.Module(body=defined, type_ignores=[]))
                for name in node.names:
                    self.assertIn(name.name, own)
                    self.assertIsNone(name.asname)

    def check_names(self, tree):
        known = bound_names(tree) + imported_names(tree)
        for name in bound_names(tree):
            if name not in OWN_DOUBLE:
                self.assertRegex(name, r"^[A-Za-z][A-Za-z0-9_]*$")
            self.assertNotIn(name, BUILT_IN + BARRED_NAMES)
        for node in ast.walk(tree):
            if isinstance(node, ast.Name) and isinstance(node.ctx, ast.Load):
                self.assertIn(node.id, known + BUILT_IN, node.lineno)
                self.assertNotIn(node.id, BARRED_NAMES, node.lineno)
        for node in functions(tree):
            for name in bound_names(ast.Module(body=node.body, type_ignores=[])) + [a.arg for a in node.args.args]:
                self.assertNotIn(name, imported_names(tree) + class_names(tree) + dir(builtins), node.lineno)

    def check_calls(self, tree):
        own = [node.name for path in files() for node in functions(ast.parse(path.read_text(encoding="utf-8")))]
        for node in ast.walk(tree):
            if isinstance(node, ast.Call) and isinstance(node.func, ast.Attribute):
                self.assertIn(node.func.attr, METHODS + own + list(OWN_DOUBLE), node.lineno)
            if isinstance(node, ast.Compare):
                for op, right in zip(node.ops, node.comparators):
                    if isinstance(op, (ast.Is, ast.IsNot)):
                        self.assertIn(getattr(right, "value", "other"), (None, True, False), node.lineno)

    def test_classes(self):
        methods = []
        values = []
        for path in files():
            tree = ast.parse(path.read_text(encoding="utf-8"))
            for node in ast.walk(tree):
                if isinstance(node, ast.ClassDef):
                    self.assertIn(node, tree.body, node.name)
                    self.assertLessEqual(len(node.bases), 1, node.name)
                    own = [part.name for part in node.body if not isinstance(part, ast.Pass)]
                    self.assertEqual(len(own), len(set(own)), node.name)
                    methods += own
                if isinstance(node, ast.Attribute) and isinstance(node.ctx, ast.Store):
                    self.assertIsInstance(node.value, ast.Name, node.lineno)
                    values.append(node.attr)
        self.assertEqual(set(methods) & set(values), set())
        self.assertIn("choose", methods)

    def test_no_files_draw_from_one_another(self):
        drawn = {}
        for path in files():
            body = ast.parse(path.read_text(encoding="utf-8")).body
            drawn[path.stem] = [node.module.split(".")[1] for node in body if isinstance(node, ast.ImportFrom)]
        for name in drawn:
            reached = list(drawn[name])
            for other in reached:
                reached.extend(more for more in drawn[other] if more not in reached)
            self.assertNotIn(name, reached)

    def test_barred_words_are_found(self):
        self.assertTrue(re.search(BARRED_WORDS, "its type is"))
        self.assertFalse(re.search(BARRED_WORDS, "its kind is"))


if __name__ == "__main__":
    unittest.main()

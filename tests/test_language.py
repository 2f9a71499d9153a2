"""Holds the package's files against the rules of ../shared/LANGUAGE.md that a plain look can tell."""

import ast
import builtins
import pathlib
import re
import unittest

PACKAGE = pathlib.Path(__file__).resolve().parent.parent / "turnery"
FILES = sorted(PACKAGE.rglob("*.py"))

STATEMENTS = """Module FunctionDef ClassDef Return Assign AugAssign For While If Raise Try Import ImportFrom Expr
    Pass Break Continue arguments arg alias ExceptHandler keyword""".split()
EXPRESSIONS = """BoolOp BinOp UnaryOp Lambda IfExp Dict Set ListComp comprehension Compare Call JoinedStr
    FormattedValue Constant Attribute Subscript Name List Tuple Slice""".split()
OPERATORS = """And Or Add Sub Mult Mod Pow LShift RShift BitOr BitXor BitAnd FloorDiv Invert Not USub UAdd
    Eq NotEq Lt LtE Gt GtE Is IsNot In NotIn Load Store""".split()
NODES = set(STATEMENTS + EXPRESSIONS + OPERATORS)
OWN_NAMES = """len range enumerate zip min max sum abs sorted reversed int str bool list tuple dict set frozenset
    isinstance ord repr any all divmod Exception ValueError TypeError KeyError IndexError LookupError
    ZeroDivisionError ArithmeticError OverflowError RuntimeError NotImplementedError AttributeError
    StopIteration""".split()
OWN_METHODS = """append clear copy count endswith extend find get index insert isalnum isalpha isdigit islower
    isspace isupper items join keys ljust lower lstrip partition pop remove replace reverse rfind rjust rpartition
    rsplit rstrip setdefault split splitlines startswith strip update upper values zfill bit_length""".split()
UNUSED_WORDS = """type typing typing_extensions enum Enum IntEnum StrEnum Flag IntFlag Generic Protocol ABC ABCMeta
    namedtuple NamedTuple TypedDict TYPE_CHECKING abstractmethod""".split()
UNUSED_PIECES = ["dataclass", "overload", "contextmanager"]
UNUSED_NAMES = "register mro elements open input version_info with_traceback add_note format format_map".split()
DUNDER_METHODS = ["__init__", "__eq__", "__repr__", "__str__", "__len__"]


def nodes_of(tree, *kinds):
    return [node for node in ast.walk(tree) if isinstance(node, kinds)]


def bound_names(tree):
    """Every name that the file gives a meaning to."""
    names = [node.name for node in nodes_of(tree, ast.FunctionDef, ast.ClassDef)]
    names += [node.arg for node in nodes_of(tree, ast.arg)]
    names += [node.id for node in nodes_of(tree, ast.Name) if isinstance(node.ctx, ast.Store)]
    names += [node.name for node in nodes_of(tree, ast.ExceptHandler) if node.name]
    for node in nodes_of(tree, ast.ImportFrom):
        names += [each.asname or each.name for each in node.names]
    return names


def imported_names(tree):
    return [each.name for node in nodes_of(tree, ast.ImportFrom) for each in node.names]


def top_names(tree):
    """Every name that is bound at the file's top, as often as it is."""
    names = [node.name for node in tree.body if isinstance(node, (ast.FunctionDef, ast.ClassDef))]
    for node in tree.body:
        if isinstance(node, ast.Assign):
            names += [target.id for target in node.targets]
    return names + imported_names(tree)


class TestLanguage(unittest.TestCase):
    @classmethod
    def setUpClass(cls):
        cls.texts = {path: path.read_bytes().decode("utf-8") for path in FILES}
        cls.trees = {path: ast.parse(text) for path, text in cls.texts.items()}

    def test_the_folder(self):
        self.assertIn(PACKAGE / "__init__.py", FILES)
        for path in PACKAGE.rglob("*"):
            if "__pycache__" not in path.parts:
                self.assertTrue(path.suffix == ".py", path)
                self.assertRegex(path.stem, r"^(__init__|[a-z][a-z0-9_]*)$")
                self.assertNotIn(path.stem, vars(builtins))
                self.assertNotRegex(path.stem, r"^(tests?|testing|test_.*|site|conftest|.*customize)$")

    def test_signs_and_lengths(self):
        for path, text in self.texts.items():
            self.assertRegex(text, r"\A[ -~\n]*\Z", path)
            self.assertLessEqual(len(text.splitlines()), 400, path)
            self.assertLessEqual(max(len(row) for row in text.split("\n")), 120, path)
            for node in nodes_of(self.trees[path], ast.FunctionDef):
                self.assertLessEqual(node.end_lineno - node.lineno + 1, 40, (path, node.name))

    def test_words_that_stand_nowhere(self):
        for path, text in self.texts.items():
            found = set(re.findall(r"\w+", text)) & set(UNUSED_WORDS)
            found |= {piece for piece in UNUSED_PIECES if piece in text}
            self.assertEqual(found, set(), path)

    def test_forms(self):
        for path, tree in self.trees.items():
            for node in ast.walk(tree):
                self.assertIn(node.__class__.__name__, NODES, (path, getattr(node, "lineno", None)))
            for node in nodes_of(tree, ast.FunctionDef, ast.ClassDef):
                self.assertEqual(node.decorator_list, [], (path, node.name))
            for node in nodes_of(tree, ast.Assign):
                self.assertEqual(len(node.targets), 1, (path, node.lineno))
            for node in nodes_of(tree, ast.For, ast.While):
                self.assertEqual(node.orelse, [], (path, node.lineno))
            for node in nodes_of(tree, ast.ListComp):
                self.assertEqual(len(node.generators), 1, (path, node.lineno))
                self.assertLessEqual(len(node.generators[0].ifs), 1, (path, node.lineno))
            for node in nodes_of(tree, ast.Constant):
                plain = node.value is None or isinstance(node.value, (int, str))
                self.assertTrue(plain, (path, node.lineno))
                self.assertFalse(isinstance(node.value, str) and "%" in node.value, (path, node.lineno))

    def test_the_top(self):
        for path, tree in self.trees.items():
            self.assertIsNotNone(ast.get_docstring(tree), path)
            for node in tree.body[1:]:
                plain = isinstance(node, (ast.ImportFrom, ast.FunctionDef, ast.ClassDef, ast.Assign))
                self.assertTrue(plain, (path, node.lineno))
            imports = [node for node in tree.body if isinstance(node, ast.ImportFrom)]
            self.assertEqual(imports, nodes_of(tree, ast.Import, ast.ImportFrom), path)
            for node in imports:
                self.assertEqual(node.level, 0, (path, node.lineno))
                self.assertRegex(node.module, r"^turnery\.[a-z]", path)
                self.assertNotIn("*", [each.name for each in node.names], path)

    def test_names(self):
        for path, tree in self.trees.items():
            bound = bound_names(tree)
            for name in bound:
                self.assertTrue(name in DUNDER_METHODS or re.match(r"^[A-Za-z]\w*$", name), (path, name))
                self.assertFalse(name in vars(builtins) or name in UNUSED_NAMES, (path, name))
            for node in nodes_of(tree, ast.Name):
                self.assertTrue(node.id in bound or node.id in OWN_NAMES, (path, node.lineno, node.id))

    def test_each_name_once(self):
        for path, tree in self.trees.items():
            names = top_names(tree)
            self.assertEqual(sorted(names), sorted(set(names)), path)
            taken = imported_names(tree) + [node.name for node in nodes_of(tree, ast.ClassDef)]
            inner = [node.arg for node in nodes_of(tree, ast.arg)]
            inner += [node.id for node in nodes_of(tree, ast.Name) if isinstance(node.ctx, ast.Store)]
            self.assertEqual(set(taken) & set(inner), set(), path)

    def test_imports(self):
        drawn = {path.stem: {} for path in FILES}
        defined = {path.stem: set(top_names(tree)) - set(imported_names(tree)) for path, tree in self.trees.items()}
        for path, tree in self.trees.items():
            for node in nodes_of(tree, ast.ImportFrom):
                other = node.module.split(".")[1]
                drawn[path.stem][other] = True
                for each in node.names:
                    self.assertIn(each.name, defined[other], (path, node.lineno))
        while drawn:
            ends = [stem for stem, others in drawn.items() if not set(others) & set(drawn)]
            self.assertNotEqual(ends, [], f"files that draw from one another: {sorted(drawn)}")
            drawn = {stem: others for stem, others in drawn.items() if stem not in ends}

    def test_methods_are_called_where_they_stand(self):
        for path, tree in self.trees.items():
            called = [id(node.func) for node in nodes_of(tree, ast.Call)]
            own = [node.name for holder in nodes_of(tree, ast.ClassDef) for node in nodes_of(holder, ast.FunctionDef)]
            for node in nodes_of(tree, ast.Attribute):
                if node.attr in OWN_METHODS + own:
                    self.assertIn(id(node), called, (path, node.lineno))

    def test_methods(self):
        own = list(OWN_METHODS) + DUNDER_METHODS
        for tree in self.trees.values():
            for holder in nodes_of(tree, ast.ClassDef):
                own += [node.name for node in nodes_of(holder, ast.FunctionDef)]
        for path, tree in self.trees.items():
            for node in nodes_of(tree, ast.Attribute):
                self.assertNotIn(node.attr, UNUSED_NAMES, (path, node.lineno))
            for node in nodes_of(tree, ast.Call):
                if isinstance(node.func, ast.Attribute):
                    self.assertIn(node.func.attr, own, (path, node.lineno))

    def test_parameters_and_annotations(self):
        for path, tree in self.trees.items():
            for node in nodes_of(tree, ast.arguments):
                others = (node.vararg, node.kwarg, node.kwonlyargs, node.posonlyargs)
                self.assertEqual(others, (None, None, [], []), path)
            for node in nodes_of(tree, ast.arg):
                self.assertIsNone(node.annotation, (path, node.lineno))

    def test_classes(self):
        methods, values = set(), set()
        for path, tree in self.trees.items():
            for holder in nodes_of(tree, ast.ClassDef):
                self.assertIn(holder, tree.body, (path, holder.name))
                self.assertLessEqual(len(holder.bases), 1, (path, holder.name))
                for node in holder.body:
                    plain = isinstance(node, ast.FunctionDef) or node is holder.body[0] and ast.get_docstring(holder)
                    self.assertTrue(plain, (path, node.lineno))
                names = [node.name for node in holder.body if isinstance(node, ast.FunctionDef)]
                self.assertEqual(len(names), len(set(names)), (path, holder.name))
                methods.update(names)
            for node in nodes_of(tree, ast.FunctionDef):
                self.assertTrue(node.name != "__init__" or not nodes_of(node, ast.Return), (path, node.lineno))
            values.update(node.attr for node in nodes_of(tree, ast.Attribute) if isinstance(node.ctx, ast.Store))
        self.assertEqual(methods & values, set())
        taken = set().union(*[set(dir(kind)) for kind in (str, int, list, dict, set, tuple, bytes)])
        self.assertEqual((methods - set(DUNDER_METHODS)) & taken, set())
        self.assertEqual(values & taken, set())

    def test_is_beside_none_and_truths_alone(self):
        for path, tree in self.trees.items():
            for node in nodes_of(tree, ast.Compare):
                if any(isinstance(sign, (ast.Is, ast.IsNot)) for sign in node.ops):
                    sides = [side.value for side in [node.left] + node.comparators if isinstance(side, ast.Constant)]
                    self.assertTrue(any(side is None or side is True or side is False for side in sides),
                                    (path, node.lineno))


if __name__ == "__main__":
    unittest.main()

"""Holds the package's files to those rules of ../shared/LANGUAGE.md that a look at the code can tell."""

import ast
import builtins
import pathlib
import re
import unittest

PACKAGE = pathlib.Path(__file__).resolve().parent.parent / "evenform"

NODES = """Module Expr Constant ImportFrom alias FunctionDef arguments arg Lambda ClassDef Assign AugAssign If While For
Return Break Continue Pass Raise Try ExceptHandler Call Name Attribute Subscript Slice List Tuple Dict Set BinOp UnaryOp
BoolOp Compare IfExp ListComp comprehension JoinedStr FormattedValue Load Store Add Sub Mult FloorDiv Mod Pow BitAnd
BitOr BitXor LShift RShift Invert And Or Not USub UAdd Eq NotEq Lt LtE Gt GtE Is IsNot In NotIn
keyword""".split()

BUILTINS = """len range enumerate zip min max sum abs sorted reversed int str bool list tuple dict set frozenset isinstance
ord repr any all divmod Exception ValueError TypeError KeyError IndexError LookupError ZeroDivisionError ArithmeticError
OverflowError RuntimeError NotImplementedError AttributeError StopIteration""".split()

METHODS = """append clear copy count endswith extend find get index insert isalnum isalpha isdigit islower isspace isupper
items join keys ljust lower lstrip partition pop remove replace reverse rfind rjust rpartition rsplit rstrip setdefault
split splitlines startswith strip update upper values zfill bit_length""".split()

KEYWORDS = {"sorted": ("key", "reverse"), "min": ("key", "default"), "max": ("key", "default"), "sum": ("start",),
            "enumerate": ("start",), "zip": ("strict",)}

UNUSED = """register mro elements open input version_info with_traceback add_note attrgetter breakpoint builtins compile
copyright credits delattr dir eval exec exit gc getattr globals hasattr help id importlib license locals methodcaller os
quit setattr super type vars sys chr format format_map""".split()

WORDS = re.compile(r"\b(type|typing|typing_extensions|enum|Enum|IntEnum|StrEnum|Flag|IntFlag|Generic|Protocol|ABC|ABCMeta"
                   r"|namedtuple|NamedTuple|TypedDict|TYPE_CHECKING|abstractmethod)\b|dataclass|overload|contextmanager")


def sources():
    return {path.name: path.read_text(encoding="utf-8") for path in sorted(PACKAGE.glob("*.py"))}


def trees():
    return {name: ast.parse(text) for name, text in sources().items()}


def nodes(kind):
    """Each node of a kind, with the place where it stands."""
    for name, tree in trees().items():
        for node in ast.walk(tree):
            if isinstance(node, kind):
                yield f"{name}:{getattr(node, 'lineno', 0)}", node


def bound_names(tree):
    """Parameters and names that are given a value."""
    for node in ast.walk(tree):
        if isinstance(node, ast.arg):
            yield node.arg
        if isinstance(node, ast.Name) and isinstance(node.ctx, ast.Store):
            yield node.id
        if isinstance(node, ast.ExceptHandler) and node.name is not None:
            yield node.name


def top_names(tree):
    defined = [node.name for node in tree.body if isinstance(node, (ast.FunctionDef, ast.ClassDef))]
    for node in tree.body:
        if isinstance(node, ast.Assign):
            defined += [target.id for target in node.targets]
    return defined


class Language(unittest.TestCase):
    def test_l1_l14_files_and_signs(self):
        there = [path.name for path in PACKAGE.iterdir() if path.name != "__pycache__"]
        self.assertIn("__init__.py", there)
        for name in there:
            self.assertRegex(name, r"^(__init__|__main__|[a-z][a-z0-9_]*)\.py$")
            self.assertNotIn(name[:-3], dir(builtins))
        for name, text in sources().items():
            self.assertIsNone(re.search(r"[^ -~\n]", text), name)

    def test_l2_l16_imports(self):
        drawn = {}
        defined = {name: top_names(tree) for name, tree in trees().items()}
        for place, node in nodes(ast.ImportFrom):
            source = re.fullmatch(r"evenform\.([a-z0-9_]+)", node.module or "")
            self.assertTrue(source and node.level == 0, place)
            for alias in node.names:
                self.assertIn(alias.name, defined[f"{source[1]}.py"], place)
            drawn.setdefault(place.split(":")[0], set()).add(f"{source[1]}.py")
        waiting = set(drawn)
        while waiting:
            free = {name for name in waiting if not drawn[name] & waiting}
            self.assertTrue(free, f"files draw from one another: {waiting}")
            waiting -= free

    def test_l3_l15_top_of_a_module(self):
        for name, tree in trees().items():
            self.assertIsNotNone(ast.get_docstring(tree), name)
            self.assertEqual(len(set(top_names(tree))), len(top_names(tree)), name)
            for node in tree.body[1:]:
                self.assertIsInstance(node, (ast.ImportFrom, ast.FunctionDef, ast.ClassDef, ast.Assign), name)

    def test_l4_l5_functions_and_classes(self):
        for place, node in nodes(ast.FunctionDef):
            self.assertEqual(node.decorator_list, [], place)
            self.assertIsNone(node.args.vararg or node.args.kwarg or node.returns, place)
            self.assertEqual(node.args.kwonlyargs + node.args.posonlyargs, [], place)
        for place, node in nodes(ast.ClassDef):
            self.assertEqual(node.decorator_list + node.keywords, [], place)
            self.assertLessEqual(len(node.bases), 1, place)
            for inner in node.body:
                self.assertIsInstance(inner, (ast.FunctionDef, ast.Pass), place)

    def test_l6_l7_l27_statements_and_expressions(self):
        for place, node in nodes(ast.AST):
            self.assertIn(node.__class__.__name__, NODES, place)
        for place, node in nodes(ast.Constant):
            self.assertNotIsInstance(node.value, (float, complex, bytes), place)
            self.assertFalse(isinstance(node.value, str) and "%" in node.value, place)
        for place, node in nodes(ast.Assign):
            self.assertEqual(len(node.targets), 1, place)
            self.assertNotIsInstance(node.targets[0], (ast.Tuple, ast.List), place)
        for place, node in nodes(ast.FormattedValue):
            self.assertIsInstance(node.value, ast.Name, place)
            self.assertIsNone(node.format_spec, place)
        for place, node in nodes((ast.For, ast.While)):
            self.assertEqual(node.orelse, [], place)
        for place, node in nodes(ast.Try):
            self.assertEqual(node.finalbody, [], place)
        for place, node in nodes(ast.ListComp):
            self.assertEqual(len(node.generators), 1, place)
            self.assertLessEqual(len(node.generators[0].ifs), 1, place)
        for place, node in nodes(ast.BinOp):
            if isinstance(node.op, ast.Pow):
                self.assertIsInstance(node.right, ast.Constant, place)

    def test_l8_l12_l15_l17_names(self):
        for place, node in nodes(ast.Name):
            self.assertNotIn(node.id, UNUSED, place)
            if node.id in dir(builtins):
                self.assertIn(node.id, BUILTINS, place)
        for name, tree in trees().items():
            imported = [alias.name for node in tree.body if isinstance(node, ast.ImportFrom) for alias in node.names]
            classes = [node.name for node in tree.body if isinstance(node, ast.ClassDef)]
            for bound in bound_names(tree):
                self.assertRegex(bound, r"^[A-Za-z][A-Za-z0-9_]*$", name)
                self.assertNotIn(bound, imported + classes + dir(builtins), name)

    def test_l10_size(self):
        for name, text in sources().items():
            lines = text.splitlines()
            self.assertLessEqual(len(lines), 400, name)
            self.assertLessEqual(max(len(line) for line in lines), 120, name)
        for place, node in nodes(ast.FunctionDef):
            self.assertLessEqual(node.end_lineno - node.lineno + 1, 40, place)

    def test_l17_words(self):
        for name, text in sources().items():
            self.assertIsNone(WORDS.search(text), name)

    def test_l19_l20_errors_and_is(self):
        for place, node in nodes(ast.ExceptHandler):
            self.assertIsNotNone(node.type, place)
            self.assertNotIn("Exception", ast.dump(node.type).split("'"), place)
            self.assertNotIn("TypeError", ast.dump(node.type).split("'"), place)
        for place, node in nodes(ast.Compare):
            for operator, right in zip(node.ops, node.comparators):
                if isinstance(operator, (ast.Is, ast.IsNot)):
                    self.assertTrue(isinstance(right, ast.Constant) and right.value in (None, True, False), place)

    def test_l22_keywords_of_pythons_own(self):
        for place, node in nodes(ast.Call):
            if isinstance(node.func, ast.Name) and node.func.id in BUILTINS:
                for keyword in node.keywords:
                    self.assertIn(keyword.arg, KEYWORDS.get(node.func.id, ()), place)
                    if keyword.arg in ("reverse", "strict"):
                        self.assertIsInstance(keyword.value, ast.Constant, place)

    def test_l25_methods(self):
        own = [node.name for _, outer in nodes(ast.ClassDef) for node in outer.body if isinstance(node, ast.FunctionDef)]
        for place, node in nodes(ast.Call):
            if isinstance(node.func, ast.Attribute):
                self.assertIn(node.func.attr, METHODS + own, place)

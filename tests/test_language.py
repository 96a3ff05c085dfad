"""The package's own files keep to the small part of Python that they are written in."""

import ast
import builtins
import pathlib
import re
import unittest

PACKAGE = pathlib.Path(__file__).resolve().parent.parent / "patchtexts"
FILES = sorted(PACKAGE.glob("**/*.py"))

STATEMENTS = (
    ast.Assign, ast.AugAssign, ast.If, ast.While, ast.For, ast.Return, ast.Break, ast.Continue, ast.Pass, ast.Raise,
    ast.Try, ast.ExceptHandler, ast.Expr, ast.FunctionDef, ast.ClassDef, ast.ImportFrom,
)
BARRED_NODES = (
    ast.Set, ast.SetComp, ast.DictComp, ast.GeneratorExp, ast.NamedExpr, ast.Starred, ast.Div, ast.Await, ast.Yield,
    ast.YieldFrom, ast.Delete, ast.With, ast.Global, ast.Nonlocal, ast.Assert, ast.Import, ast.AnnAssign,
)
BUILTINS = set("""
    len range enumerate zip min max sum abs sorted reversed int str bool list tuple dict set frozenset isinstance ord
    repr any all divmod Exception ValueError TypeError KeyError IndexError LookupError ZeroDivisionError
    ArithmeticError OverflowError RuntimeError NotImplementedError AttributeError StopIteration
""".split())
METHODS = set("""
    append clear copy count endswith extend find get index insert isalnum isalpha isdigit islower isspace isupper items
    join keys ljust lower lstrip partition pop remove replace reverse rfind rjust rpartition rsplit rstrip setdefault
    split splitlines startswith strip update upper values zfill bit_length __init__
""".split())
WALKED = ("zip", "enumerate", "reversed", "range")
WALKERS = ("list", "tuple", "dict", "sorted", "sum", "any", "all", "enumerate", "zip", "min", "max")
BARRED_WORDS = re.compile(r"""\b(type|typing|typing_extensions|enum|Enum|IntEnum|StrEnum|Flag|IntFlag|Generic|Protocol
    |ABC|ABCMeta|namedtuple|NamedTuple|TypedDict|TYPE_CHECKING|abstractmethod|register|mro|elements|open|input
    |version_info|with_traceback|add_note|eval|exec|globals|locals|vars|super|getattr|setattr|hasattr|delattr|id)\b
    |dataclass|overload|contextmanager""", re.VERBOSE)


def walked(path):
    return ast.walk(ast.parse(path.read_text("ascii")))


def bound_names(tree):
    """Every name that is written anywhere in the file as the program's own."""
    for node in ast.walk(tree):
        if isinstance(node, (ast.FunctionDef, ast.ClassDef)):
            yield node.name
        elif isinstance(node, ast.Name) and isinstance(node.ctx, ast.Store):
            yield node.id
        elif isinstance(node, ast.arg):
            yield node.arg
        elif isinstance(node, ast.alias):
            yield node.name
        elif isinstance(node, ast.ExceptHandler) and node.name:
            yield node.name


def methods_and_values():
    """The methods of all classes, and the values that are given to objects."""
    methods, given = set(), set()
    for path in FILES:
        for node in walked(path):
            if isinstance(node, ast.ClassDef):
                methods |= {part.name for part in node.body if isinstance(part, ast.FunctionDef)}
            elif isinstance(node, ast.Attribute) and isinstance(node.ctx, ast.Store):
                given.add(node.attr)
    return methods, given


class Language(unittest.TestCase):
    def test_files_and_signs(self):
        self.assertIn(PACKAGE / "__init__.py", FILES)
        for path in PACKAGE.iterdir():
            if path.name != "__pycache__":
                self.assertRegex(path.name, r"\A(__init__|[a-z][a-z0-9_]*)\.py\Z")
        for path in FILES:
            text = path.read_text("ascii")
            lines = text.split("\n")
            self.assertLessEqual(len(lines), 399, path.name)
            for line in lines:
                self.assertRegex(line, r"\A[ -~]{0,120}\Z", path.name)
                self.assertIsNone(BARRED_WORDS.search(line), f"{path.name}: {line}")

    def test_statements_and_expressions(self):
        for path in FILES:
            for node in walked(path):
                where = f"{path.name}:{getattr(node, 'lineno', 0)}"
                self.assertNotIsInstance(node, BARRED_NODES, where)
                if isinstance(node, (ast.stmt, ast.ExceptHandler)):
                    self.assertIsInstance(node, STATEMENTS, where)
                if isinstance(node, (ast.For, ast.While)):
                    self.assertEqual(node.orelse, [], where)
                if isinstance(node, ast.Assign):
                    self.assertEqual(len(node.targets), 1, where)
                if isinstance(node, ast.FunctionDef):
                    self.assertEqual(node.decorator_list, [], where)
                    self.assertLessEqual(node.end_lineno - node.lineno + 1, 40, where)
                if isinstance(node, ast.Constant):
                    self.assertIsInstance(node.value, (int, str, type(None)), where)

    def test_the_top_of_each_file(self):
        for path in FILES:
            tree = ast.parse(path.read_text("ascii"))
            self.assertIsNotNone(ast.get_docstring(tree), path.name)
            names = []
            for node in tree.body[1:]:
                self.assertIsInstance(node, (ast.ImportFrom, ast.FunctionDef, ast.ClassDef, ast.Assign), path.name)
                if isinstance(node, ast.ImportFrom):
                    names += [alias.name for alias in node.names]
                elif isinstance(node, ast.Assign):
                    names.append(node.targets[0].id)
                    self.assert_plain(node.value, names)
                else:
                    names.append(node.name)
            self.assertEqual(len(names), len(set(names)), path.name)

    def assert_plain(self, value, names):
        """A plain value, or a tuple or dict of such and of names above it, that holds no list or dict itself."""
        if isinstance(value, (ast.Tuple, ast.List, ast.Dict)):
            parts = value.elts if not isinstance(value, ast.Dict) else value.keys + value.values
            for part in parts:
                self.assertNotIsInstance(part, (ast.List, ast.Dict))
                self.assert_plain(part, names)
        elif isinstance(value, ast.Name):
            self.assertIn(value.id, names)
        else:
            self.assertIsInstance(value, ast.Constant)

    def test_what_is_made_to_be_walked_is_walked_at_once(self):
        for path in FILES:
            walked_at_once = []
            for node in walked(path):
                if isinstance(node, (ast.For, ast.comprehension)):
                    walked_at_once.append((node.iter.lineno, node.iter.col_offset))
                elif isinstance(node, ast.Call) and isinstance(node.func, ast.Name) and node.func.id in WALKERS:
                    walked_at_once += [(part.lineno, part.col_offset) for part in node.args[:1]]
            for node in walked(path):
                if isinstance(node, ast.Call) and isinstance(node.func, ast.Name) and node.func.id in WALKED:
                    self.assertIn((node.lineno, node.col_offset), walked_at_once, path.name)

    def test_parameters_and_comparisons(self):
        for path in FILES:
            for node in walked(path):
                where = f"{path.name}:{getattr(node, 'lineno', 0)}"
                if isinstance(node, ast.arguments):
                    self.assertEqual((node.posonlyargs, node.kwonlyargs, node.vararg, node.kwarg),
                                     ([], [], None, None), where)
                elif isinstance(node, ast.Compare) and isinstance(node.ops[0], (ast.Is, ast.IsNot)):
                    self.assertIsInstance(node.comparators[0], ast.Constant, where)
                elif isinstance(node, ast.ExceptHandler):
                    self.assertIsNotNone(node.type, where)

    def test_names(self):
        for path in FILES:
            tree = ast.parse(path.read_text("ascii"))
            bound = set(bound_names(tree))
            for name in bound - {"__init__"}:
                self.assertRegex(name, r"\A[A-Za-z][A-Za-z0-9_]*\Z", path.name)
                self.assertNotIn(name, dir(builtins), path.name)
            for node in ast.walk(tree):
                if isinstance(node, ast.Name) and isinstance(node.ctx, ast.Load):
                    self.assertIn(node.id, bound | BUILTINS, path.name)

    def test_imports_are_drawn_from_the_file_that_defines_them(self):
        drawn = {}
        for path in FILES:
            drawn[path.stem] = set()
            for node in walked(path):
                if isinstance(node, ast.ImportFrom):
                    self.assertRegex(node.module, r"\Apatchtexts\.[a-z]+\Z")
                    self.assertEqual(node.level, 0)
                    stem = node.module.split(".")[1]
                    drawn[path.stem].add(stem)
                    source = (PACKAGE / f"{stem}.py").read_text("ascii")
                    for alias in node.names:
                        self.assertIsNone(alias.asname)
                        self.assertRegex(source, rf"(?m)^(def |class )?{alias.name}\b")
        while drawn:
            free = [stem for stem in drawn if not drawn[stem] & set(drawn)]
            self.assertNotEqual(free, [], f"drawn in a ring: {sorted(drawn)}")
            for stem in free:
                drawn.pop(stem)

    def test_methods_and_values(self):
        methods, given = methods_and_values()
        self.assertEqual(methods & given, set())
        own_of_python = set()
        for kind in (str, int, list, dict, set, bytes, tuple):
            own_of_python |= set(dir(kind))
        self.assertEqual((methods - {"__init__"}) & own_of_python, set())
        self.assertEqual(given & own_of_python, set())
        for path in FILES:
            for node in walked(path):
                if isinstance(node, ast.Call) and isinstance(node.func, ast.Attribute):
                    self.assertIn(node.func.attr, METHODS | methods, f"{path.name}:{node.lineno}")

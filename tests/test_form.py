"""The package's files keep to the small part of Python that they are to be written in."""

import ast
import builtins
import pathlib
import re
import unittest

PACKAGE = pathlib.Path(__file__).resolve().parent.parent / "smallword"

BUILTINS = set("""
    len range enumerate zip min max sum abs sorted reversed int str bool bytes list tuple dict set isinstance ord repr
    any all divmod Exception ValueError TypeError KeyError IndexError LookupError ZeroDivisionError ArithmeticError
    OverflowError RuntimeError NotImplementedError AttributeError StopIteration
""".split())
METHODS = set("""
    append clear copy count endswith extend find get index insert isalnum isalpha isdigit islower isspace isupper items
    join keys ljust lower lstrip partition pop remove replace reverse rfind rjust rpartition rsplit rstrip setdefault
    split splitlines startswith strip update upper values zfill bit_length title capitalize swapcase casefold center
    removeprefix removesuffix rindex isascii isdecimal isnumeric istitle isidentifier isprintable sort add discard
""".split())
DUNDERS = {"__init__", "__eq__", "__repr__", "__str__", "__len__"}
NO_NODES = (
    ast.With, ast.Match, ast.Global, ast.Nonlocal, ast.Yield, ast.YieldFrom, ast.Await, ast.AsyncFor, ast.AsyncWith,
    ast.AsyncFunctionDef, ast.GeneratorExp, ast.NamedExpr, ast.Div, ast.MatMult, ast.AnnAssign, ast.Import, ast.TryStar,
)
NO_NAMES = set("""
    register mro elements open input version_info with_traceback add_note attrgetter breakpoint builtins compile
    copyright credits delattr dir eval exec exit gc getattr globals hasattr help id importlib license locals
    methodcaller os quit setattr super type vars sys chr frozenset format format_map
""".split())
NO_WORDS = re.compile(
    r"\b(type|typing|typing_extensions|enum|Enum|IntEnum|StrEnum|Flag|IntFlag|Generic|Protocol|ABC|ABCMeta|namedtuple"
    r"|NamedTuple|TypedDict|TYPE_CHECKING|abstractmethod)\b|dataclass|overload|contextmanager")
LAZY = {"zip", "enumerate", "reversed", "range"}
LAZY_METHODS = {"items", "keys", "values"}
TAKERS = {"list", "tuple", "dict", "sorted", "sum", "any", "all", "enumerate", "zip", "min", "max"}


def files():
    return sorted(PACKAGE.glob("*.py"))


def trees():
    return [(path, ast.parse(path.read_text())) for path in files()]


def imports_of(tree):
    return [node for node in tree.body if isinstance(node, ast.ImportFrom)]


def tops_of(tree):
    """The names that a file itself defines at its top."""
    found = [node.name for node in tree.body if isinstance(node, (ast.FunctionDef, ast.ClassDef))]
    for node in tree.body:
        if isinstance(node, ast.Assign):
            found += [target.id for target in node.targets]
    return found


def parents_of(tree):
    return {child: node for node in ast.walk(tree) for child in ast.iter_child_nodes(node)}


def called_name(node):
    if isinstance(node, ast.Call) and isinstance(node.func, ast.Name):
        return node.func.id
    return node.func.attr if isinstance(node, ast.Call) and isinstance(node.func, ast.Attribute) else None


class Files(unittest.TestCase):
    def test_nothing_else_lies_in_the_package(self):
        others = [path.name for path in PACKAGE.iterdir() if path.suffix != ".py" and path.name != "__pycache__"]
        self.assertEqual(others, [])
        self.assertTrue((PACKAGE / "__init__.py").exists())

    def test_signs_lines_and_words(self):
        for path in files():
            text = path.read_text()
            with self.subTest(path.name):
                self.assertIsNone(re.search(r"[^ -~\n]", text))
                self.assertIsNone(NO_WORDS.search(text))
                self.assertLessEqual(len(text.split("\n")), 400)
                self.assertLessEqual(max(len(line) for line in text.split("\n")), 120)

    def test_functions_have_at_most_40_lines(self):
        for path, tree in trees():
            for node in ast.walk(tree):
                if isinstance(node, ast.FunctionDef):
                    self.assertLessEqual(node.end_lineno - node.lineno + 1, 40, (path.name, node.name))


class Imports(unittest.TestCase):
    def test_names_are_drawn_from_the_file_that_defines_them(self):
        tops = {"smallword." + path.stem: tops_of(tree) for path, tree in trees()}
        for path, tree in trees():
            rows = [node for node in ast.walk(tree) if isinstance(node, ast.ImportFrom)]
            self.assertEqual(rows, imports_of(tree))
            for row in rows:
                for drawn in row.names:
                    self.assertEqual(row.level, 0)
                    self.assertIsNone(drawn.asname)
                    self.assertIn(drawn.name, tops[row.module], path.name)

    def test_every_drawn_name_is_used(self):
        for path, tree in trees():
            used = {node.id for node in ast.walk(tree) if isinstance(node, ast.Name)}
            for row in imports_of(tree):
                for drawn in row.names:
                    self.assertIn(drawn.name, used, path.name)

    def test_no_two_files_draw_from_one_another(self):
        draws = {path.stem: [row.module.split(".")[1] for row in imports_of(tree)] for path, tree in trees()}
        while draws:
            free = [name for name in draws if not any(other in draws for other in draws[name])]
            self.assertNotEqual(free, [], draws)
            for name in free:
                del draws[name]


class Tops(unittest.TestCase):
    def test_only_plain_things_stand_at_a_top_each_once(self):
        for path, tree in trees():
            for node in tree.body:
                docstring = isinstance(node, ast.Expr) and isinstance(node.value, ast.Constant)
                kinds = (ast.ImportFrom, ast.FunctionDef, ast.ClassDef, ast.Assign)
                self.assertTrue(docstring or isinstance(node, kinds), path.name)
            names = tops_of(tree) + [drawn.name for row in imports_of(tree) for drawn in row.names]
            self.assertEqual(len(names), len(set(names)), path.name)

    def test_classes_hold_methods_alone(self):
        for path, tree in trees():
            for node in ast.walk(tree):
                if isinstance(node, ast.ClassDef):
                    self.assertLessEqual(len(node.bases), 1)
                    self.assertIn(node, tree.body)
                    for part in node.body:
                        self.assertIsInstance(part, (ast.FunctionDef, ast.Expr), path.name)


class Rows(unittest.TestCase):
    def test_no_forbidden_forms(self):
        for path, tree in trees():
            for node in ast.walk(tree):
                with self.subTest(path.name, line=getattr(node, "lineno", None)):
                    self.check_node(node)

    def check_node(self, node):
        self.assertNotIsInstance(node, NO_NODES)
        if isinstance(node, (ast.For, ast.While)):
            self.assertEqual(node.orelse, [])
        if isinstance(node, ast.Starred):
            self.assertIsInstance(node.ctx, ast.Store)
        if isinstance(node, (ast.FunctionDef, ast.ClassDef)):
            self.assertEqual(node.decorator_list, [])
        if isinstance(node, ast.arguments):
            self.assertEqual((node.vararg, node.kwarg, node.posonlyargs), (None, None, []))
        if isinstance(node, ast.Compare) and any(isinstance(op, (ast.Is, ast.IsNot)) for op in node.ops):
            self.assertIn(ast.unparse(node.comparators[0]), ("None", "True", "False"))
        if isinstance(node, ast.BinOp) and isinstance(node.op, ast.Pow):
            self.assertIsInstance(node.right, ast.Constant)
        if isinstance(node, ast.Constant):
            self.assertNotIsInstance(node.value, (float, complex))
            self.assertNotIn("%", str(node.value))

    def test_names(self):
        for path, tree in trees():
            outer = {node.name for node in tree.body if isinstance(node, ast.ClassDef)}
            outer.update(drawn.name for row in imports_of(tree) for drawn in row.names)
            for node in ast.walk(tree):
                if isinstance(node, ast.Name):
                    given = not isinstance(node.ctx, ast.Load)
                    self.check_name(path, node.id, given, outer)
                elif isinstance(node, ast.arg):
                    self.check_name(path, node.arg, True, outer)
                elif isinstance(node, ast.FunctionDef):
                    self.assertTrue(node.name in DUNDERS or node.name[0] != "_", path.name)
                    self.assertNotIn(node.name, NO_NAMES)

    def check_name(self, path, name, given, outer):
        self.assertNotEqual(name[0], "_", path.name)
        self.assertNotIn(name, NO_NAMES, path.name)
        if given:
            self.assertNotIn(name, outer, path.name)
            self.assertNotIn(name, dir(builtins), path.name)
        elif name in dir(builtins):
            self.assertIn(name, BUILTINS, path.name)

    def test_methods_and_values(self):
        own, values = set(), set()
        for path, tree in trees():
            for node in ast.walk(tree):
                if isinstance(node, ast.ClassDef):
                    own.update(part.name for part in node.body if isinstance(part, ast.FunctionDef))
                if isinstance(node, ast.Attribute) and isinstance(node.ctx, ast.Store):
                    values.add(node.attr)
        self.assertEqual(own & values, set())
        for path, tree in trees():
            parents = parents_of(tree)
            for node in ast.walk(tree):
                if isinstance(node, ast.Attribute):
                    called = isinstance(parents[node], ast.Call) and parents[node].func is node
                    self.assertIn(node.attr, METHODS | own if called else values, path.name)

    def test_lazy_things_are_walked_on_the_spot(self):
        for path, tree in trees():
            parents = parents_of(tree)
            for node in ast.walk(tree):
                if called_name(node) not in LAZY | LAZY_METHODS:
                    continue
                above = parents[node]
                walked = isinstance(above, (ast.For, ast.comprehension)) and above.iter is node
                self.assertTrue(walked or called_name(above) in TAKERS | {"join"}, (path.name, node.lineno))


if __name__ == "__main__":
    unittest.main()

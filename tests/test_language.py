"""The package keeps to the small part of Python that it is written in: what can be seen of the rules L1 to L28."""

import ast
import builtins
import pathlib
import re
import unittest

PACKAGE = pathlib.Path(__file__).resolve().parent.parent / "surehall"

STATEMENTS = (
    ast.Assign, ast.AugAssign, ast.If, ast.While, ast.For, ast.Return, ast.Break, ast.Continue, ast.Pass, ast.Raise,
    ast.Try, ast.Expr, ast.FunctionDef, ast.ClassDef, ast.ImportFrom,
)
EXPRESSIONS = (
    ast.Constant, ast.List, ast.Tuple, ast.Dict, ast.Set, ast.BinOp, ast.UnaryOp, ast.BoolOp, ast.Compare, ast.IfExp,
    ast.Call, ast.Attribute, ast.Subscript, ast.Slice, ast.ListComp, ast.JoinedStr, ast.FormattedValue, ast.Name,
    ast.Lambda,
)
OWN_OF_PYTHON = """
    len range enumerate zip min max sum abs sorted reversed int str bool list tuple dict set frozenset isinstance ord
    repr any all divmod Exception ValueError TypeError KeyError IndexError LookupError ZeroDivisionError
    ArithmeticError OverflowError RuntimeError NotImplementedError StopIteration
""".split()
METHODS_OF_PYTHON = """
    append clear copy count endswith extend find get index insert isalnum isalpha isdigit islower isspace isupper items
    join keys ljust lower lstrip partition pop remove replace reverse rfind rjust rpartition rsplit rstrip setdefault
    split splitlines startswith strip update upper values zfill bit_length
""".split()
SPECIAL_METHODS = ("__init__", "__eq__", "__repr__", "__str__", "__len__")
WORDS_NOT_USED = """
    type typing typing_extensions enum Enum IntEnum StrEnum Flag IntFlag Generic Protocol ABC ABCMeta namedtuple
    NamedTuple TypedDict TYPE_CHECKING abstractmethod
""".split()
NAMES_NOT_USED = """
    register mro elements open input version_info with_traceback add_note format format_map attrgetter breakpoint
    builtins compile copyright credits delattr dir eval exec exit gc getattr globals hasattr help id importlib license
    locals methodcaller os quit setattr super vars sys chr print
""".split()

ONLY_WALKED = "zip enumerate reversed range items keys values".split()
WALKERS = "list tuple dict sorted sum any all enumerate zip min max join".split()
KEYWORDS = {
    "sorted": ("key", "reverse"), "min": ("key", "default"), "max": ("key", "default"), "sum": ("start",),
    "enumerate": ("start",), "zip": ("strict",),
}


def files():
    return sorted(path for path in PACKAGE.iterdir() if path.name != "__pycache__")


# Parsed once, so that a node met again is known by its identity.
TREES = [(path.name, ast.parse(path.read_text(encoding="utf-8"))) for path in files()]


def trees():
    return TREES


def walked():
    return [(f"{name}:{getattr(node, 'lineno', 0)}", node) for name, tree in trees() for node in ast.walk(tree)]


def called(call):
    """The name or the method that a call calls."""
    return getattr(call.func, "id", getattr(call.func, "attr", None))


def is_text(node):
    return isinstance(node, ast.Expr) and isinstance(node.value, ast.Constant) and isinstance(node.value.value, str)


class Files(unittest.TestCase):
    def test_plain_files_alone(self):
        self.assertIn(PACKAGE / "__init__.py", files())
        for path in files():
            self.assertTrue(path.is_file(), path)
            self.assertRegex(path.name, r"^([a-z][a-z0-9_]*|__init__|__main__)\.py$")
            self.assertNotIn(path.stem, dir(builtins))
            self.assertNotRegex(path.stem, r"^(tests?|testing|test_.*|site|conftest|sitecustomize|usercustomize)$")

    def test_sizes_and_signs(self):
        for path in files():
            text = path.read_bytes().decode("ascii")
            self.assertRegex(text, r"\A[ -~\n]*\Z")
            rows = text.splitlines()
            self.assertLessEqual(len(rows), 400, path)
            for row in rows:
                self.assertLessEqual(len(row), 120, (path.name, row))

    def test_words_that_stand_nowhere(self):
        for path in files():
            text = path.read_text(encoding="utf-8")
            for word in re.findall(r"\w+", text):
                self.assertNotIn(word, WORDS_NOT_USED, path.name)
                self.assertNotRegex(word, "dataclass|overload|contextmanager", path.name)


class Tops(unittest.TestCase):
    def test_what_stands_at_the_top(self):
        for name, tree in trees():
            bound = []
            for place, node in enumerate(tree.body):
                kinds = (ast.ImportFrom, ast.FunctionDef, ast.ClassDef, ast.Assign)
                self.assertTrue(isinstance(node, kinds) or (place == 0 and is_text(node)), (name, node.lineno))
                if isinstance(node, (ast.FunctionDef, ast.ClassDef)):
                    bound.append(node.name)
                elif isinstance(node, ast.ImportFrom):
                    bound.extend(alias.asname or alias.name for alias in node.names)
                elif isinstance(node, ast.Assign):
                    bound.append(node.targets[0].id)
            self.assertEqual(sorted(bound), sorted(set(bound)), name)

    def test_imports_are_the_packages_own_and_draw_on_no_ring(self):
        drawn = {}
        for name, tree in trees():
            drawn[name[:-3]] = []
            for node in ast.walk(tree):
                self.assertNotIsInstance(node, ast.Import, name)
                if isinstance(node, ast.ImportFrom):
                    self.assertRegex(node.module, r"^surehall\.[a-z]+$")
                    self.assertEqual(node.level, 0)
                    self.assertNotIn("*", [alias.name for alias in node.names])
                    self.assertIn(node, tree.body)
                    drawn[name[:-3]].append(node.module.split(".")[1])
        self.assertEqual(drawn["__init__"], [])
        while drawn:
            ends = [name for name in drawn if not any(other in drawn for other in drawn[name])]
            self.assertTrue(ends, drawn)
            for name in ends:
                drawn.pop(name)


class Shapes(unittest.TestCase):
    def test_statements_and_expressions(self):
        for where, node in walked():
            if isinstance(node, ast.stmt):
                self.assertIsInstance(node, STATEMENTS, where)
            if isinstance(node, ast.expr):
                self.assertIsInstance(node, EXPRESSIONS, where)
            if isinstance(node, ast.Expr):
                self.assertTrue(isinstance(node.value, ast.Call) or is_text(node), where)
            if isinstance(node, ast.Assign):
                self.assertEqual(len(node.targets), 1, where)
                self.assertNotIsInstance(node.targets[0], (ast.Tuple, ast.List), where)
            if isinstance(node, (ast.While, ast.For)):
                self.assertEqual(node.orelse, [], where)
            if isinstance(node, ast.Try):
                self.assertEqual(node.finalbody, [], where)
                self.assertTrue(all(handler.type is not None for handler in node.handlers), where)

    def test_functions(self):
        for where, node in walked():
            if isinstance(node, (ast.FunctionDef, ast.Lambda)):
                args = node.args
                self.assertTrue(args.vararg is None and args.kwarg is None, where)
                self.assertEqual((args.posonlyargs, args.kwonlyargs), ([], []), where)
                self.assertTrue(all(arg.annotation is None for arg in args.args), where)
            if isinstance(node, ast.FunctionDef):
                self.assertEqual((node.decorator_list, node.returns), ([], None), where)
                self.assertLessEqual(node.end_lineno - node.lineno + 1, 40, where)

    def test_classes(self):
        methods = []
        values = []
        for where, node in walked():
            if isinstance(node, ast.ClassDef):
                self.assertEqual((node.decorator_list, node.keywords), ([], []), where)
                self.assertLessEqual(len(node.bases), 1, where)
                for part in node.body:
                    self.assertIsInstance(part, (ast.FunctionDef, ast.Pass), where)
                names = [part.name for part in node.body if isinstance(part, ast.FunctionDef)]
                self.assertEqual(sorted(names), sorted(set(names)), where)
                methods.extend(names)
            if isinstance(node, ast.Attribute) and isinstance(node.ctx, ast.Store):
                values.append(node.attr)
        self.assertEqual([name for name in values if name in methods], [])

    def test_values(self):
        for where, node in walked():
            if isinstance(node, ast.Constant):
                self.assertIsInstance(node.value, (int, str, type(None)), where)
                if isinstance(node.value, str):
                    self.assertNotIn("%", node.value, where)
            if isinstance(node, (ast.BinOp, ast.AugAssign)):
                self.assertNotIsInstance(node.op, (ast.Div, ast.MatMult), where)
                if isinstance(node.op, ast.Pow):
                    self.assertIsInstance(node.right, ast.Constant, where)
            if isinstance(node, ast.ListComp):
                self.assertEqual(len(node.generators), 1, where)
                self.assertLessEqual(len(node.generators[0].ifs), 1, where)
            if isinstance(node, ast.FormattedValue):
                self.assertIsInstance(node.value, ast.Name, where)
                self.assertIsNone(node.format_spec, where)
            if isinstance(node, ast.Compare) and any(isinstance(op, (ast.Is, ast.IsNot)) for op in node.ops):
                sides = [node.left] + node.comparators
                beside = [side.value for side in sides if isinstance(side, ast.Constant)]
                self.assertTrue(any(value in (None, True, False) for value in beside), where)


class Walks(unittest.TestCase):
    def test_what_is_only_walked_is_walked_on_the_spot(self):
        walked_there = []
        for where, node in walked():
            if isinstance(node, (ast.For, ast.comprehension)):
                walked_there.append(node.iter)
            if isinstance(node, ast.Call) and called(node) in WALKERS and node.args:
                walked_there.append(node.args[0])
        there = [id(node) for node in walked_there]
        for where, node in walked():
            if isinstance(node, ast.Call) and called(node) in ONLY_WALKED:
                self.assertIn(id(node), there, where)

    def test_sets_are_not_kept(self):
        beside = []
        for where, node in walked():
            if isinstance(node, ast.Compare):
                beside.extend([id(side) for side in [node.left] + node.comparators])
            if isinstance(node, ast.Call) and called(node) in ("sorted", "len"):
                beside.extend([id(arg) for arg in node.args])
        for where, node in walked():
            if isinstance(node, ast.Set) or (isinstance(node, ast.Call) and called(node) in ("set", "frozenset")):
                self.assertIn(id(node), beside, where)

    def test_keywords_stand_at_the_listed_names_alone(self):
        for where, node in walked():
            if isinstance(node, ast.Call) and called(node) in OWN_OF_PYTHON + METHODS_OF_PYTHON:
                for keyword in node.keywords:
                    self.assertIn(keyword.arg, KEYWORDS.get(called(node), ()), where)

    def test_methods_of_python_are_called_where_they_stand(self):
        calls = [id(node.func) for where, node in walked() if isinstance(node, ast.Call)]
        for where, node in walked():
            if isinstance(node, ast.Attribute) and node.attr in METHODS_OF_PYTHON:
                self.assertIn(id(node), calls, where)

    def test_lists_and_dicts_of_a_files_top_are_only_read(self):
        for name, tree in trees():
            kept = [node.targets[0].id for node in tree.body
                    if isinstance(node, ast.Assign) and isinstance(node.value, (ast.List, ast.Dict))]
            read = []
            for node in ast.walk(tree):
                if isinstance(node, ast.Subscript) and isinstance(node.ctx, ast.Load):
                    read.append(id(node.value))
                if isinstance(node, ast.Compare):
                    read.extend([id(side) for side in node.comparators])
            for node in ast.walk(tree):
                if isinstance(node, ast.Name) and node.id in kept and isinstance(node.ctx, ast.Load):
                    self.assertIn(id(node), read, (name, node.lineno))


class Names(unittest.TestCase):
    def test_names_are_plain(self):
        for where, node in walked():
            for name in (getattr(node, "id", None), getattr(node, "attr", None), getattr(node, "arg", None),
                         getattr(node, "name", None)):
                if isinstance(name, str) and name not in SPECIAL_METHODS:
                    self.assertRegex(name, r"^[A-Za-z][A-Za-z0-9_]*$", where)
                    self.assertNotIn(name, NAMES_NOT_USED, where)

    def test_pythons_own_names_are_the_listed_ones_and_keep_their_meaning(self):
        for where, node in walked():
            if isinstance(node, ast.Name) and node.id in dir(builtins):
                self.assertIn(node.id, OWN_OF_PYTHON, where)
                self.assertIsInstance(node.ctx, ast.Load, where)
            if isinstance(node, ast.arg):
                self.assertNotIn(node.arg, dir(builtins), where)

    def test_no_local_is_called_like_a_class_or_an_import(self):
        for name, tree in trees():
            taken = [node.name for node in tree.body if isinstance(node, ast.ClassDef)]
            for node in tree.body:
                if isinstance(node, ast.ImportFrom):
                    taken.extend(alias.asname or alias.name for alias in node.names)
            for node in ast.walk(tree):
                if isinstance(node, ast.Name) and isinstance(node.ctx, ast.Store):
                    self.assertNotIn(node.id, taken, (name, node.lineno))
                if isinstance(node, ast.arg):
                    self.assertNotIn(node.arg, taken, (name, node.lineno))

    def test_methods_called_are_the_packages_own_or_the_listed_ones(self):
        own = [node.name for where, node in walked() if isinstance(node, ast.FunctionDef)]
        for where, node in walked():
            if isinstance(node, ast.Call) and isinstance(node.func, ast.Attribute):
                self.assertIn(node.func.attr, own + METHODS_OF_PYTHON + ["__init__"], where)


if __name__ == "__main__":
    unittest.main()

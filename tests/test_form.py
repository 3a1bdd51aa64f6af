"""The form of the package's code: those rules of its language that can be seen without running it."""

import ast
import builtins
import pathlib
import re
import unittest

FOLDER = pathlib.Path(__file__).resolve().parent.parent / "homeslopes"
OWN_NAMES = set(
    "len range enumerate zip min max sum abs sorted reversed int str bool bytes list tuple dict set frozenset"
    " isinstance ord repr any all divmod Exception ValueError TypeError KeyError IndexError LookupError"
    " ZeroDivisionError ArithmeticError OverflowError RuntimeError NotImplementedError AttributeError"
    " StopIteration".split()
)
METHODS = set(
    "append clear copy count endswith extend find get index insert isalnum isalpha isdigit islower isspace isupper"
    " items join keys ljust lower lstrip partition pop remove replace reverse rfind rjust rpartition rsplit rstrip"
    " setdefault split splitlines startswith strip update upper values zfill bit_length add discard sort".split()
)
WORDS = re.compile(
    r"\b(type|typing|typing_extensions|enum|Enum|IntEnum|StrEnum|Flag|IntFlag|Generic|Protocol|ABC|ABCMeta|namedtuple"
    r"|NamedTuple|TypedDict|TYPE_CHECKING|abstractmethod)\b|dataclass|overload|contextmanager"
)
NOT_USED = set("register mro elements open input version_info with_traceback add_note".split())
NODES = (
    ast.GeneratorExp, ast.With, ast.Yield, ast.YieldFrom, ast.Await, ast.AsyncFunctionDef, ast.AsyncFor, ast.AsyncWith,
    ast.NamedExpr, ast.Global, ast.Nonlocal, ast.Match, ast.Import, ast.Div, ast.MatMult,
)


def files():
    return sorted(FOLDER.glob("*.py"))


def trees():
    return [(path.name, ast.parse(path.read_text("ascii"))) for path in files()]


def nodes(*kinds):
    return [(name, node) for name, tree in trees() for node in ast.walk(tree) if isinstance(node, kinds)]


def bound_names():
    for name, node in nodes(ast.Name, ast.arg, ast.FunctionDef, ast.ClassDef, ast.ExceptHandler, ast.keyword):
        if isinstance(node, ast.Name) and isinstance(node.ctx, ast.Load):
            continue
        text = getattr(node, "id", None) or getattr(node, "arg", None) or getattr(node, "name", None)
        if text is not None and not isinstance(node, ast.keyword):
            yield name, text


class Form(unittest.TestCase):
    def test_only_files_of_the_language_lie_there(self):
        others = [path.name for path in FOLDER.iterdir() if path.suffix != ".py" and path.name != "__pycache__"]
        self.assertEqual(others, [])
        self.assertIn("__init__.py", [path.name for path in files()])

    def test_signs_and_sizes(self):
        for path in files():
            text = path.read_bytes().decode("ascii")
            self.assertTrue(all(sign == "\n" or " " <= sign <= "~" for sign in text), path.name)
            self.assertLessEqual(len(text.splitlines()), 400, path.name)
            self.assertLessEqual(max(len(line) for line in text.splitlines()), 120, path.name)
            self.assertIsNone(WORDS.search(text), path.name)

    def test_functions_are_small(self):
        for name, node in nodes(ast.FunctionDef):
            self.assertLessEqual(node.end_lineno - node.lineno + 1, 40, (name, node.name))
            self.assertEqual(node.decorator_list, [])
            self.assertEqual((node.args.vararg, node.args.kwarg, node.args.posonlyargs), (None, None, []))

    def test_only_the_statements_and_values_of_the_language(self):
        for name, node in nodes(*NODES):
            self.fail(f"{name}:{getattr(node, 'lineno', '?')}: {node.__class__.__name__}")
        for name, node in nodes(ast.For, ast.While):
            self.assertEqual(node.orelse, [], (name, node.lineno))
        for name, node in nodes(ast.Constant):
            self.assertNotIsInstance(node.value, (float, complex), name)

    def test_is_stands_beside_none_true_and_false(self):
        for name, node in nodes(ast.Compare):
            for sign, right in zip(node.ops, node.comparators):
                if isinstance(sign, (ast.Is, ast.IsNot)):
                    self.assertIn(getattr(right, "value", ...), (None, True, False), (name, node.lineno))

    def test_names(self):
        for name, text in bound_names():
            if text != "__init__":
                self.assertFalse(hasattr(builtins, text), (name, text))
                self.assertTrue(text.isascii() and not text.startswith("_"), (name, text))
            self.assertNotIn(text, NOT_USED, name)
        for name, node in nodes(ast.Name):
            self.assertTrue(not hasattr(builtins, node.id) or node.id in OWN_NAMES, (name, node.id))

    def test_methods_and_values(self):
        given = {node.attr for _, node in nodes(ast.Attribute) if isinstance(node.ctx, ast.Store)}
        own = {row.name for _, node in nodes(ast.ClassDef) for row in node.body if isinstance(row, ast.FunctionDef)}
        self.assertEqual(given & own, set())
        for name, node in nodes(ast.Attribute):
            self.assertIn(node.attr, METHODS | given | own, (name, node.lineno))

    def test_classes(self):
        tops = [node for _, tree in trees() for node in tree.body if isinstance(node, ast.ClassDef)]
        self.assertEqual([node.name for node in tops], [node.name for _, node in nodes(ast.ClassDef)])
        for node in tops:
            self.assertEqual((node.decorator_list, node.keywords), ([], []))
            self.assertLessEqual(len(node.bases), 1)
            for row in node.body:
                self.assertTrue(isinstance(row, ast.FunctionDef) or ast.get_docstring(node) and row == node.body[0])

    def test_imports(self):
        drawn = {}
        for name, node in nodes(ast.ImportFrom):
            self.assertTrue(node.level == 0 and node.module.startswith("homeslopes."), name)
            source = node.module.split(".")[1] + ".py"
            drawn.setdefault(name, set()).add(source)
            tree = ast.parse((FOLDER / source).read_text("ascii"))
            there = [row.name for row in tree.body if isinstance(row, (ast.FunctionDef, ast.ClassDef))]
            for alias in node.names:
                self.assertIn(alias.name, there, name)
                self.assertIsNone(alias.asname, name)
        while drawn:
            free = [name for name in drawn if not any(source in drawn for source in drawn[name])]
            self.assertTrue(free, "files draw from one another")
            for name in free:
                del drawn[name]

    def test_no_local_is_called_like_an_import(self):
        for path in files():
            tree = ast.parse(path.read_text("ascii"))
            drawn = {alias.name for row in tree.body if isinstance(row, ast.ImportFrom) for alias in row.names}
            for node in ast.walk(tree):
                if isinstance(node, ast.arg):
                    self.assertNotIn(node.arg, drawn, path.name)
                if isinstance(node, ast.Name) and isinstance(node.ctx, ast.Store):
                    self.assertNotIn(node.id, drawn, path.name)


if __name__ == "__main__":
    unittest.main()

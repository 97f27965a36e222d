"""The form of the program: those of the language's rules that a walk through its files can see."""

import ast
import builtins
import re
import unittest
from pathlib import Path

ROOT = Path(__file__).resolve().parent.parent
PACKAGE = ROOT / "stickysensors"

BUILTINS = set("""
    len range enumerate zip min max sum abs sorted reversed int str bool list tuple dict set frozenset isinstance
    ord repr any all divmod Exception ValueError TypeError KeyError IndexError LookupError ZeroDivisionError
    ArithmeticError OverflowError RuntimeError NotImplementedError AttributeError StopIteration
""".split())
METHODS = set("""
    append clear copy count endswith extend find get index insert isalnum isalpha isdigit islower isspace isupper
    items join keys ljust lower lstrip partition pop remove replace reverse rfind rjust rpartition rsplit rstrip
    setdefault split splitlines startswith strip update upper values zfill bit_length
""".split())
WORDS = re.compile(
    r"\b(type|typing|typing_extensions|enum|Enum|IntEnum|StrEnum|Flag|IntFlag|Generic|Protocol|ABC|ABCMeta"
    r"|namedtuple|NamedTuple|TypedDict|TYPE_CHECKING|abstractmethod)\b|dataclass|overload|contextmanager")
NAMES = set("""
    register mro elements open input version_info with_traceback add_note attrgetter breakpoint builtins compile
    copyright credits delattr dir eval exec exit gc getattr globals hasattr help id importlib license locals
    methodcaller os quit setattr super type vars sys __name__
""".split())
STATEMENTS = (
    ast.Assign, ast.AugAssign, ast.If, ast.While, ast.For, ast.Return, ast.Break, ast.Continue, ast.Pass, ast.Raise,
    ast.Try, ast.Expr, ast.FunctionDef, ast.ClassDef, ast.ImportFrom)
EXPRESSIONS = (
    ast.Constant, ast.Name, ast.Attribute, ast.Subscript, ast.Slice, ast.Call, ast.BinOp, ast.UnaryOp, ast.BoolOp,
    ast.Compare, ast.IfExp, ast.List, ast.Tuple, ast.Dict, ast.Set, ast.ListComp, ast.Lambda, ast.JoinedStr,
    ast.FormattedValue)
WALKED = ("zip", "enumerate", "reversed", "range")
WALKERS = ("list", "tuple", "dict", "sorted", "sum", "any", "all", "enumerate", "zip", "min", "max")


def files():
    return sorted(PACKAGE.glob("*.py"))


def parsed():
    texts = [(path, path.read_text(encoding="utf-8")) for path in files()]
    return [(path.stem, text, ast.parse(text, path.name)) for path, text in texts]


def called_name(node):
    return node.func.id if isinstance(node, ast.Call) and isinstance(node.func, ast.Name) else None


def bound_names(tree):
    """Parameters and locals, with the line of each."""
    for node in ast.walk(tree):
        if isinstance(node, ast.arg):
            yield node.arg, node.lineno
        if isinstance(node, ast.Name) and isinstance(node.ctx, ast.Store):
            yield node.id, node.lineno


class Language(unittest.TestCase):
    def test_the_files(self):
        self.assertIn(PACKAGE / "__init__.py", files())
        for path in PACKAGE.iterdir():
            if path.name != "__pycache__":
                self.assertRegex(path.name, r"^(__init__|[a-z][a-z0-9_]*)\.py$")
        self.assertEqual(
            [path.parent.name for path in ROOT.glob("*/__init__.py")], ["stickysensors"])

    def test_sizes_and_signs(self):
        for file, text, tree in parsed():
            with self.subTest(file=file):
                self.assertLessEqual(text.count("\n"), 399)
                self.assertNotRegex(text, r"[^ -~\n]")
                self.assertNotRegex(text, WORDS)
                self.assertLessEqual(max(len(line) for line in text.split("\n")), 120)
                for node in ast.walk(tree):
                    if isinstance(node, ast.FunctionDef):
                        self.assertLessEqual(node.end_lineno - node.lineno + 1, 40, node.name)

    def test_the_top_of_a_file(self):
        for file, text, tree in parsed():
            with self.subTest(file=file):
                self.assertTrue(ast.get_docstring(tree))
                for node in tree.body[1:]:
                    self.assertIsInstance(node, (ast.ImportFrom, ast.FunctionDef, ast.ClassDef, ast.Assign))
                    if isinstance(node, ast.Assign):
                        value = ast.literal_eval(node.value)
                        self.assertNotIsInstance(value, (list, dict, set, float, bytes))
                tops = [node.name for node in tree.body if isinstance(node, (ast.FunctionDef, ast.ClassDef))]
                tops += [node.targets[0].id for node in tree.body if isinstance(node, ast.Assign)]
                tops += [name.name for node in tree.body if isinstance(node, ast.ImportFrom) for name in node.names]
                self.assertEqual(len(tops), len(set(tops)))

    def test_imports(self):
        for file, text, tree in parsed():
            with self.subTest(file=file):
                for node in ast.walk(tree):
                    if isinstance(node, ast.ImportFrom):
                        self.assertIn(node, tree.body)
                        self.assertEqual(node.level, 0)
                        source = ROOT / (node.module.replace(".", "/") + ".py")
                        self.assertIn(source, files())
                        for name in node.names:
                            self.assertIsNone(name.asname)
                            self.assertRegex(source.read_text(), rf"(?m)^(def |class )?{name.name}\b( =|\(|:)")

    def test_no_two_files_draw_from_one_another(self):
        drawn = {}
        for file, text, tree in parsed():
            with self.subTest(file=file):
                drawn["stickysensors." + file] = [
                    node.module for node in tree.body if isinstance(node, ast.ImportFrom)]
        while drawn:
            free = [name for name, sources in drawn.items() if not set(sources) & set(drawn)]
            self.assertTrue(free, drawn)
            drawn = {name: sources for name, sources in drawn.items() if name not in free}

    def test_statements_and_expressions(self):
        for file, text, tree in parsed():
            with self.subTest(file=file):
                for node in ast.walk(tree):
                    if isinstance(node, ast.stmt):
                        self.assertIsInstance(node, STATEMENTS)
                    if isinstance(node, ast.expr):
                        self.assertIsInstance(node, EXPRESSIONS)
                    if isinstance(node, ast.Expr) and node is not tree.body[0]:
                        self.assertIsInstance(node.value, ast.Call)
                    if isinstance(node, ast.Assign):
                        self.assertEqual(len(node.targets), 1)
                    if isinstance(node, (ast.For, ast.While)):
                        self.assertEqual(node.orelse, [])
                    if isinstance(node, ast.ListComp):
                        self.assertEqual(len(node.generators), 1)
                        self.assertLessEqual(len(node.generators[0].ifs), 1)
                    if isinstance(node, ast.Constant):
                        self.assertIsInstance(node.value, (int, str, type(None)))
                    self.assertNotIsInstance(node, (ast.Div, ast.MatMult))
                    if isinstance(node, (ast.FunctionDef, ast.ClassDef)):
                        self.assertEqual(node.decorator_list, [])
                    if isinstance(node, ast.FunctionDef):
                        told = node.args
                        self.assertEqual(told.posonlyargs + told.kwonlyargs + [told.vararg, told.kwarg], [None, None])

    def test_names(self):
        for file, text, tree in parsed():
            with self.subTest(file=file):
                tops = [node.name for node in tree.body if isinstance(node, ast.ClassDef)]
                tops += [name.name for node in tree.body if isinstance(node, ast.ImportFrom) for name in node.names]
                for name, line in bound_names(tree):
                    self.assertRegex(name, r"^[A-Za-z]\w*$")
                    self.assertFalse(hasattr(builtins, name), (name, line))
                    self.assertNotIn(name, NAMES)
                    self.assertNotIn(name, tops, line)
                for node in ast.walk(tree):
                    if isinstance(node, ast.Name):
                        self.assertNotIn(node.id, NAMES)
                        self.assertTrue(node.id in BUILTINS or not hasattr(builtins, node.id), node.id)
                    if isinstance(node, ast.Attribute):
                        self.assertRegex(node.attr, r"^[a-z]\w*$")
                        self.assertNotIn(node.attr, NAMES)

    def test_methods(self):
        own = set()
        values = set()
        for file, text, tree in parsed():
            with self.subTest(file=file):
                for node in ast.walk(tree):
                    if isinstance(node, ast.ClassDef):
                        own.update(part.name for part in node.body)
                    if isinstance(node, ast.Attribute) and isinstance(node.ctx, ast.Store):
                        values.add(node.attr)
        self.assertEqual(own & values, set())
        for file, text, tree in parsed():
            with self.subTest(file=file):
                for node in ast.walk(tree):
                    if isinstance(node, ast.Call) and isinstance(node.func, ast.Attribute):
                        self.assertIn(node.func.attr, METHODS | own)

    def test_keywords_and_walks(self):
        for file, text, tree in parsed():
            with self.subTest(file=file):
                on_the_spot = []
                for node in ast.walk(tree):
                    if isinstance(node, ast.keyword):
                        self.assertIn(node.arg, ("key", "reverse", "default", "start", "strict"))
                    if isinstance(node, (ast.For, ast.comprehension)):
                        on_the_spot.append(node.iter)
                    if called_name(node) in WALKERS:
                        on_the_spot += node.args[:1]
                for node in ast.walk(tree):
                    if called_name(node) in WALKED:
                        self.assertIn(node, on_the_spot, node.lineno)
                    if isinstance(node, ast.Set) or called_name(node) in ("set", "frozenset"):
                        self.assertRegex(ast.unparse(tree), re.escape(f"len({ast.unparse(node)})"))


if __name__ == "__main__":
    unittest.main()

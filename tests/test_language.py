"""The part of the language that the package keeps to, as far as its files show it at a glance."""

import ast
import builtins
import pathlib
import re
import unittest

PACKAGE = pathlib.Path(__file__).resolve().parent.parent / "markcounts"
BUILT_IN = set(
    "len range enumerate zip min max sum abs sorted reversed int str bool list tuple dict set frozenset "
    "isinstance ord repr any all divmod ValueError Exception KeyError IndexError LookupError "
    "ZeroDivisionError".split()
)
METHODS = set("append copy count extend get index insert items join keys pop remove reverse values".split())
WORDS_OUT = re.compile(
    r"\b(type|typing|typing_extensions|enum|Enum|IntEnum|StrEnum|Flag|IntFlag|Generic|Protocol|ABC|ABCMeta"
    r"|namedtuple|NamedTuple|TypedDict|TYPE_CHECKING|abstractmethod)\b|dataclass|overload|contextmanager"
)
STATEMENTS = (
    ast.FunctionDef, ast.ClassDef, ast.ImportFrom, ast.Assign, ast.AugAssign, ast.If, ast.While, ast.For,
    ast.Return, ast.Break, ast.Continue, ast.Pass, ast.Raise, ast.Try, ast.Expr,
)
EXPRESSIONS_OUT = (
    ast.SetComp, ast.DictComp, ast.GeneratorExp, ast.NamedExpr, ast.Starred, ast.Await, ast.Yield, ast.Div,
)


def nodes(path):
    return ast.walk(ast.parse(path.read_text(encoding="ascii")))


class Language(unittest.TestCase):
    def each(self):
        paths = sorted(PACKAGE.glob("*.py"))
        self.assertTrue(paths)
        return paths

    def test_only_plain_files(self):
        for path in PACKAGE.iterdir():
            if path.name != "__pycache__":
                self.assertRegex(path.name, r"^[a-z][a-z0-9_]*\.py$|^__init__\.py$")

    def test_signs_words_and_size(self):
        for path in self.each():
            text = path.read_text(encoding="ascii")
            self.assertRegex(text, r"\A[\n -~]*\Z")
            self.assertIsNone(WORDS_OUT.search(text))
            lines = text.splitlines()
            self.assertLessEqual(len(lines), 400)
            self.assertLessEqual(max(map(len, lines)), 120)
            for node in nodes(path):
                if isinstance(node, ast.FunctionDef):
                    self.assertLessEqual(node.end_lineno - node.lineno + 1, 40)

    def test_imports_are_the_packages_own(self):
        for path in self.each():
            for node in nodes(path):
                self.assertNotIsInstance(node, ast.Import)
                if isinstance(node, ast.ImportFrom):
                    self.assertEqual(node.level, 0)
                    self.assertTrue(node.module.startswith("markcounts."))
                    self.assertNotIn("*", [name.name for name in node.names])

    def test_imports_are_from_the_files_that_define(self):
        for path in self.each():
            for node in nodes(path):
                if isinstance(node, ast.ImportFrom):
                    source = PACKAGE / (node.module.split(".")[1] + ".py")
                    defs = [there for there in nodes(source) if isinstance(there, (ast.FunctionDef, ast.ClassDef))]
                    self.assertLessEqual({name.name for name in node.names}, {there.name for there in defs})

    def test_no_two_files_draw_from_one_another(self):
        drawn = {}
        for path in self.each():
            found = [node.module for node in nodes(path) if isinstance(node, ast.ImportFrom)]
            drawn["markcounts." + path.stem] = set(found)
        while drawn:
            free = [name for name, found in drawn.items() if not found & set(drawn)]
            self.assertTrue(free, drawn)
            for name in free:
                drawn.pop(name)

    def test_statements_and_expressions(self):
        for path in self.each():
            for node in nodes(path):
                if isinstance(node, ast.stmt):
                    self.assertIsInstance(node, STATEMENTS)
                if isinstance(node, ast.Expr) and node.lineno > 1:
                    self.assertIsInstance(node.value, ast.Call)
                if isinstance(node, ast.Assign):
                    self.assertEqual(len(node.targets), 1)
                    self.assertNotIsInstance(node.targets[0], (ast.Tuple, ast.List))
                if isinstance(node, ast.ListComp):
                    self.assertEqual(len(node.generators), 1)
                    self.assertLessEqual(len(node.generators[0].ifs), 1)
                if isinstance(node, (ast.For, ast.While)):
                    self.assertEqual(node.orelse, [])
                self.assertNotIsInstance(node, EXPRESSIONS_OUT)

    def test_names(self):
        for path in self.each():
            for node in nodes(path):
                if isinstance(node, ast.Name):
                    self.assertRegex(node.id, r"^[A-Za-z][A-Za-z0-9_]*$")
                    if hasattr(builtins, node.id):
                        self.assertIsInstance(node.ctx, ast.Load)
                        self.assertIn(node.id, BUILT_IN)
                if isinstance(node, ast.arg):
                    self.assertFalse(hasattr(builtins, node.arg), node.arg)
                if isinstance(node, ast.Attribute):
                    self.assertIn(node.attr, METHODS)


if __name__ == "__main__":
    unittest.main()

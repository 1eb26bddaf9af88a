"""Point 2 and the form of the package's files: no clock, chance or files, and a small part of the language."""

import ast
import builtins
import pathlib
import re
import unittest

PACKAGE = pathlib.Path(__file__).resolve().parent.parent / "mendfield"
FILES = sorted(PACKAGE.rglob("*.py"))

OWN_NAMES = set("""len range enumerate zip min max sum abs sorted reversed int str bool list tuple dict set frozenset
    isinstance ord repr any all divmod Exception ValueError TypeError KeyError IndexError LookupError
    ZeroDivisionError ArithmeticError OverflowError RuntimeError NotImplementedError AttributeError
    StopIteration""".split())
METHODS = set("""append clear copy count endswith extend find get index insert isalnum isalpha isdigit islower isspace
    isupper items join keys ljust lower lstrip partition pop remove replace reverse rfind rjust rpartition rsplit
    rstrip setdefault split splitlines startswith strip update upper values zfill bit_length""".split())
UNDERSCORED = {"__init__", "__eq__", "__repr__", "__str__", "__len__"}
UNUSED = {"register", "mro", "elements", "open", "input", "version_info", "with_traceback", "add_note", "format",
          "format_map", "chr", "print", "sys"}
WORDS = re.compile(r"\b(type|typing|typing_extensions|enum|Enum|IntEnum|StrEnum|Flag|IntFlag|Generic|Protocol|ABC"
                   r"|ABCMeta|namedtuple|NamedTuple|TypedDict|TYPE_CHECKING|abstractmethod)\b"
                   r"|dataclass|overload|contextmanager")
OUTSIDE = (ast.With, ast.Match, ast.Delete, ast.Global, ast.Nonlocal, ast.Assert, ast.Yield, ast.YieldFrom, ast.Await,
           ast.AsyncFunctionDef, ast.AsyncFor, ast.AsyncWith, ast.SetComp, ast.DictComp, ast.GeneratorExp,
           ast.NamedExpr, ast.Starred, ast.Div, ast.MatMult, ast.AnnAssign, ast.Import)


def walked():
    """Each file's name with each node of its tree."""
    return [(path.name, node) for path in FILES for node in ast.walk(ast.parse(path.read_text()))]


class Files(unittest.TestCase):
    def test_there_are_files(self):
        names = [path.name for path in FILES]
        for name in ("__init__.py", "errors.py", "bits.py", "fields.py"):
            self.assertIn(name, names)

    def test_nothing_else_lies_there(self):
        for path in PACKAGE.rglob("*"):
            if "__pycache__" not in path.parts:
                self.assertTrue(path.is_dir() or re.fullmatch(r"[a-z0-9_]+\.py", path.name), path)

    def test_signs_and_sizes(self):
        for path in FILES:
            text = path.read_text()
            self.assertRegex(text, r"\A[ -~\n]*\Z", path)
            self.assertIsNone(WORDS.search(text), path)
            rows = text.splitlines()
            self.assertLessEqual(len(rows), 400, path)
            self.assertLessEqual(max([len(row) for row in rows], default=0), 120, path)

    def test_functions_are_short(self):
        for name, node in walked():
            if isinstance(node, ast.FunctionDef):
                self.assertLessEqual(node.end_lineno - node.lineno + 1, 40, (name, node.name))


class Language(unittest.TestCase):
    def test_only_the_package_is_drawn_from(self):
        for name, node in walked():
            if isinstance(node, ast.ImportFrom):
                self.assertEqual(node.level, 0, name)
                self.assertTrue(node.module.startswith("mendfield."), (name, node.module))
                self.assertNotIn("*", [alias.name for alias in node.names], name)

    def test_nothing_outside_the_language(self):
        for name, node in walked():
            self.assertNotIsInstance(node, OUTSIDE, (name, getattr(node, "lineno", 0)))
            if isinstance(node, (ast.For, ast.While)):
                self.assertEqual(node.orelse, [], (name, node.lineno))
            if isinstance(node, (ast.FunctionDef, ast.ClassDef)):
                self.assertEqual(node.decorator_list, [], (name, node.lineno))
            if isinstance(node, ast.Constant):
                self.assertNotIsInstance(node.value, (float, complex, bytes), (name, node.lineno))
                self.assertNotIn("%", str(node.value), (name, node.lineno))
            if isinstance(node, ast.BinOp) and isinstance(node.op, ast.Pow):
                self.assertIsInstance(node.right, ast.Constant, (name, node.lineno))
            if isinstance(node, ast.FormattedValue):
                self.assertIsInstance(node.value, ast.Name, (name, node.lineno))

    def test_names(self):
        for name, node in walked():
            if isinstance(node, ast.Name):
                self.assertNotIn(node.id, UNUSED, (name, node.lineno))
                self.assertFalse(node.id.startswith("_"), (name, node.lineno, node.id))
                if hasattr(builtins, node.id):
                    self.assertIn(node.id, OWN_NAMES, (name, node.lineno))
                    self.assertIsInstance(node.ctx, ast.Load, (name, node.lineno, node.id))
            if isinstance(node, ast.arg):
                self.assertFalse(hasattr(builtins, node.arg), (name, node.lineno, node.arg))
                self.assertIsNone(node.annotation, (name, node.lineno))
            if isinstance(node, ast.FunctionDef):
                self.assertTrue(not node.name.startswith("_") or node.name in UNDERSCORED, (name, node.name))

    def test_methods_of_python_s_own(self):
        foreign = {each for kind in (str, int, list, dict, set, bytes) for each in dir(kind)} - METHODS - {"__init__"}
        for name, node in walked():
            if isinstance(node, ast.Attribute):
                self.assertNotIn(node.attr, UNUSED, (name, node.lineno))
                self.assertNotIn(node.attr, foreign - {"add", "discard", "title"}, (name, node.lineno))

    def test_no_name_is_method_here_and_value_there(self):
        methods = set()
        for name, node in walked():
            if isinstance(node, ast.ClassDef):
                methods |= {part.name for part in node.body if isinstance(part, ast.FunctionDef)}
        for name, node in walked():
            if isinstance(node, ast.Attribute) and isinstance(node.ctx, ast.Store):
                self.assertNotIn(node.attr, methods, (name, node.lineno))


if __name__ == "__main__":
    unittest.main()

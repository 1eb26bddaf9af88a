"""Point 2 and the form of the package's files: no clock, chance or files, and a small part of the language."""

import ast
import builtins
import pathlib
import re
import unittest

PACKAGE = pathlib.Path(__file__).resolve().parent.parent / "mendfield"
FILES = sorted(PACKAGE.rglob("*.py"))

OWN_NAMES = set("""len range enumerate zip min max sum abs sorted reversed int str bool list tuple dict set frozenset
    isinstance ord repr any all divmod Exception ValueError TypeError KeyError IndexError LookupError
    ZeroDivisionError ArithmeticError OverflowError RuntimeError NotImplementedError AttributeError
    StopIteration""".split())
METHODS = set("""append clear copy count endswith extend find get index insert isalnum isalpha isdigit islower isspace
    isupper items join keys ljust lower lstrip partition pop remove replace reverse rfind rjust rpartition rsplit
    rstrip setdefault split splitlines startswith strip update upper values zfill bit_length""".split())
UNDERSCORED = {"__init__", "__eq__", "__repr__", "__str__", "__len__"}
UNUSED = {"register", "mro", "elements", "open", "input", "version_info", "with_traceback", "add_note", "format",
          "format_map", "chr", "print", "sys"}
WORDS = re.compile(r"\b(type|typing|typing_extensions|enum|Enum|IntEnum|StrEnum|Flag|IntFlag|Generic|Protocol|ABC"
                   r"|ABCMeta|namedtuple|NamedTuple|TypedDict|TYPE_CHECKING|abstractmethod)\b"
                   r"|dataclass|overload|contextmanager")
OUTSIDE = (ast.With, ast.Match, ast.Delete, ast.Global, ast.Nonlocal, ast.Assert, ast.Yield, ast.YieldFrom, ast.Await,
           ast.AsyncFunctionDef, ast.AsyncFor, ast.AsyncWith, ast.SetComp, ast.DictComp, ast.GeneratorExp,
           ast.NamedExpr, ast.Starred, ast.Div, ast.MatMult, ast.AnnAssign, ast.Import)


WALKED_AT_ONCE = {"zip", "enumerate", "reversed", "range"}
WALKERS = {"list", "tuple", "dict", "sorted", "sum", "any", "all", "enumerate", "zip", "min", "max"}
CHANGES = {"append", "clear", "extend", "insert", "pop", "remove", "reverse", "setdefault", "update"}


def trees():
    """Each file's name with its tree."""
    return [(path.name, ast.parse(path.read_text())) for path in FILES]


def bound_names(node):
    """The parameters and locals of a function, those of comprehensions and of functions within among them."""
    found = {part.arg for part in ast.walk(node) if isinstance(part, ast.arg)}
    found |= {part.id for part in ast.walk(node) if isinstance(part, ast.Name) and isinstance(part.ctx, ast.Store)}
    return found | {part.name for part in ast.walk(node) if isinstance(part, ast.ExceptHandler) and part.name}


def called_name(node):
    """The name of what is called, None where it is no plain call."""
    return node.func.id if isinstance(node, ast.Call) and isinstance(node.func, ast.Name) else None


def drawn_from(tree):
    """The files that a file draws from."""
    return {node.module.rpartition(".")[2] + ".py" for node in ast.walk(tree) if isinstance(node, ast.ImportFrom)}


def walked():
    """Each file's name with each node of its tree."""
    return [(path.name, node) for path in FILES for node in ast.walk(ast.parse(path.read_text()))]


class Files(unittest.TestCase):
    def test_there_are_files(self):
        names = [path.name for path in FILES]
        for name in ("__init__.py", "errors.py", "bits.py", "fields.py", "polys.py", "roots.py", "tables.py",
                     "solving.py", "rules.py", "finder.py", "rootmend.py", "columns.py", "searchmend.py", "codes.py",
                     "rootcodes.py", "checkcodes.py", "papers.py", "census.py", "texts.py", "weaving.py", "lines.py",
                     "desk.py"):
            self.assertIn(name, names)

    def test_nothing_else_lies_there(self):
        for path in PACKAGE.rglob("*"):
            if "__pycache__" not in path.parts:
                self.assertTrue(path.is_dir() or re.fullmatch(r"[a-z0-9_]+\.py", path.name), path)

    def test_signs_and_sizes(self):
        for path in FILES:
            text = path.read_text()
            self.assertRegex(text, r"\A[ -~\n]*\Z", path)
            self.assertIsNone(WORDS.search(text), path)
            rows = text.splitlines()
            self.assertLessEqual(len(rows), 400, path)
            self.assertLessEqual(max([len(row) for row in rows], default=0), 120, path)

    def test_functions_are_short(self):
        for name, node in walked():
            if isinstance(node, ast.FunctionDef):
                self.assertLessEqual(node.end_lineno - node.lineno + 1, 40, (name, node.name))


class Language(unittest.TestCase):
    def test_only_the_package_is_drawn_from(self):
        for name, node in walked():
            if isinstance(node, ast.ImportFrom):
                self.assertEqual(node.level, 0, name)
                self.assertTrue(node.module.startswith("mendfield."), (name, node.module))
                self.assertNotIn("*", [alias.name for alias in node.names], name)

    def test_nothing_outside_the_language(self):
        for name, node in walked():
            self.assertNotIsInstance(node, OUTSIDE, (name, getattr(node, "lineno", 0)))
            if isinstance(node, (ast.For, ast.While)):
                self.assertEqual(node.orelse, [], (name, node.lineno))
            if isinstance(node, (ast.FunctionDef, ast.ClassDef)):
                self.assertEqual(node.decorator_list, [], (name, node.lineno))
            if isinstance(node, ast.Constant):
                self.assertNotIsInstance(node.value, (float, complex, bytes), (name, node.lineno))
                self.assertNotIn("%", str(node.value), (name, node.lineno))
            if isinstance(node, ast.BinOp) and isinstance(node.op, ast.Pow):
                self.assertIsInstance(node.right, ast.Constant, (name, node.lineno))
            if isinstance(node, ast.FormattedValue):
                self.assertIsInstance(node.value, ast.Name, (name, node.lineno))

    def test_names(self):
        for name, node in walked():
            if isinstance(node, ast.Name):
                self.assertNotIn(node.id, UNUSED, (name, node.lineno))
                self.assertFalse(node.id.startswith("_"), (name, node.lineno, node.id))
                if hasattr(builtins, node.id):
                    self.assertIn(node.id, OWN_NAMES, (name, node.lineno))
                    self.assertIsInstance(node.ctx, ast.Load, (name, node.lineno, node.id))
            if isinstance(node, ast.arg):
                self.assertFalse(hasattr(builtins, node.arg), (name, node.lineno, node.arg))
                self.assertIsNone(node.annotation, (name, node.lineno))
            if isinstance(node, ast.FunctionDef):
                self.assertTrue(not node.name.startswith("_") or node.name in UNDERSCORED, (name, node.name))

    def test_one_plain_target(self):
        for name, node in walked():
            if isinstance(node, ast.Assign):
                self.assertEqual(len(node.targets), 1, (name, node.lineno))
                self.assertNotIsInstance(node.targets[0], (ast.Tuple, ast.List), (name, node.lineno))

    def test_each_name_once_at_the_top(self):
        for name, tree in trees():
            top = [part.name for part in tree.body if isinstance(part, (ast.FunctionDef, ast.ClassDef))]
            for part in tree.body:
                self.assertIsInstance(part, (ast.Expr, ast.ImportFrom, ast.Assign, ast.FunctionDef, ast.ClassDef), name)
                if isinstance(part, ast.ImportFrom):
                    top += [alias.name for alias in part.names]
                    self.assertEqual([alias.asname for alias in part.names], [None] * len(part.names), name)
                if isinstance(part, ast.Assign):
                    top += [target.id for target in part.targets]
            self.assertEqual(len(top), len(set(top)), (name, top))

    def test_no_local_is_called_like_a_class_or_an_import(self):
        for name, tree in trees():
            taken = {part.name for part in tree.body if isinstance(part, ast.ClassDef)}
            for part in tree.body:
                if isinstance(part, ast.ImportFrom):
                    taken |= {alias.name for alias in part.names}
            for part in ast.walk(tree):
                if isinstance(part, ast.FunctionDef):
                    self.assertFalse(bound_names(part) & (taken | set(dir(builtins))), (name, part.name))

    def test_names_are_drawn_from_where_they_are_defined(self):
        known = dict(trees())
        for name, tree in trees():
            for node in ast.walk(tree):
                if isinstance(node, ast.ImportFrom):
                    source = known[node.module.rpartition(".")[2] + ".py"]
                    defined = {part.name for part in source.body if isinstance(part, (ast.FunctionDef, ast.ClassDef))}
                    defined |= {part.targets[0].id for part in source.body if isinstance(part, ast.Assign)}
                    self.assertLessEqual({alias.name for alias in node.names}, defined, name)

    def test_every_import_is_used(self):
        for name, tree in trees():
            used = {node.id for node in ast.walk(tree) if isinstance(node, ast.Name)}
            for node in ast.walk(tree):
                if isinstance(node, ast.ImportFrom):
                    self.assertLessEqual({alias.name for alias in node.names}, used, name)

    def test_no_files_draw_from_one_another(self):
        left = {name: drawn_from(tree) for name, tree in trees()}
        while left:
            free = [name for name in left if not left[name] & set(left)]
            self.assertNotEqual(free, [], left)
            for name in free:
                left.pop(name)

    def test_is_stands_beside_none_true_false(self):
        for name, node in walked():
            if isinstance(node, ast.Compare) and any(isinstance(op, (ast.Is, ast.IsNot)) for op in node.ops):
                self.assertIsInstance(node.comparators[0], ast.Constant, (name, node.lineno))
                self.assertIn(node.comparators[0].value, (None, True, False), (name, node.lineno))

    def test_walked_on_the_spot(self):
        for name, tree in trees():
            fine = set()
            for node in ast.walk(tree):
                if isinstance(node, (ast.For, ast.comprehension)):
                    fine.add(node.iter)
                if called_name(node) in WALKERS and node.args:
                    fine.add(node.args[0])
            for node in ast.walk(tree):
                if called_name(node) in WALKED_AT_ONCE:
                    self.assertIn(node, fine, (name, node.lineno))

    def test_what_is_walked_is_not_changed(self):
        for name, node in walked():
            if isinstance(node, ast.For):
                taken = {ast.unparse(node.iter)}
                if called_name(node.iter) in WALKED_AT_ONCE - {"range"}:
                    taken |= {ast.unparse(part) for part in node.iter.args}
                for part in [inner for row in node.body for inner in ast.walk(row)]:
                    if isinstance(part, ast.Subscript) and isinstance(part.ctx, ast.Store):
                        self.assertNotIn(ast.unparse(part.value), taken, (name, node.lineno))
                    if isinstance(part, ast.Attribute) and part.attr in CHANGES:
                        self.assertNotIn(ast.unparse(part.value), taken, (name, node.lineno))

    def test_errors_are_made_on_the_spot_and_none_of_python_s_is_taken(self):
        for name, node in walked():
            if isinstance(node, ast.Raise):
                self.assertIsInstance(node.exc, ast.Call, (name, node.lineno))
            if isinstance(node, ast.ExceptHandler):
                self.assertFalse(hasattr(builtins, ast.unparse(node.type)), (name, node.lineno))

    def test_no_sets_are_kept(self):
        for name, node in walked():
            self.assertNotIsInstance(node, ast.Set, (name, getattr(node, "lineno", 0)))
            self.assertNotIn(called_name(node), ("set", "frozenset"), (name, getattr(node, "lineno", 0)))

    def test_methods_of_python_s_own(self):
        foreign = {each for kind in (str, int, list, dict, set, bytes) for each in dir(kind)} - METHODS - {"__init__"}
        for name, node in walked():
            if isinstance(node, ast.Attribute):
                self.assertNotIn(node.attr, UNUSED, (name, node.lineno))
                self.assertNotIn(node.attr, foreign - {"add", "discard", "title"}, (name, node.lineno))

    def test_no_name_is_method_here_and_value_there(self):
        methods = set()
        for name, node in walked():
            if isinstance(node, ast.ClassDef):
                methods |= {part.name for part in node.body if isinstance(part, ast.FunctionDef)}
        for name, node in walked():
            if isinstance(node, ast.Attribute) and isinstance(node.ctx, ast.Store):
                self.assertNotIn(node.attr, methods, (name, node.lineno))


if __name__ == "__main__":
    unittest.main()

"""The files of the package keep to the plain subset of the language, as far as their form shows it."""

import ast
import builtins
import re
import unittest
from pathlib import Path

FOLDER = Path(__file__).resolve().parent.parent / "laterepair"
FILES = sorted(FOLDER.rglob("*.py"))
TREES = {path: ast.parse(path.read_text()) for path in FILES}
BUILTINS = set(
    "len range enumerate zip min max sum abs sorted reversed int str bool list tuple dict set isinstance ord repr any "
    "all divmod iter next getattr hasattr setattr map Exception ValueError TypeError KeyError IndexError LookupError "
    "ZeroDivisionError RuntimeError NotImplemented StopIteration property staticmethod classmethod super".split())
METHODS = set(
    "append clear copy count endswith extend find get index insert isalnum isalpha isdigit islower isspace isupper items "
    "join keys ljust lower lstrip partition pop remove replace reverse rfind rjust rpartition rsplit rstrip setdefault "
    "split splitlines startswith strip update upper values zfill bit_length title capitalize removeprefix removesuffix "
    "isascii isdecimal isnumeric".split())
DOUBLE = set(
    "init eq repr str len enter exit call iter lt le gt ge ne add sub mul floordiv mod pow and or xor lshift rshift "
    "iadd isub iand ior ilshift irshift neg pos invert abs bool contains getitem setitem".split())
LIBRARY = {"math": {"gcd", "lcm", "isqrt", "comb"}, "heapq": {"heappush", "heappop", "heapify"}}
BARRED = set("type typing enum Enum Generic Protocol ABC namedtuple abstractmethod register mro elements open input law "
             "version_info with_traceback add_note eval exec compile globals locals vars dir id os sys gc".split())


def nodes(kind):
    """All nodes of a kind, with their files."""
    return [(path, node) for path, tree in TREES.items() for node in ast.walk(tree) if isinstance(node, kind)]


def place(path, node):
    """Where a node stands, to be told."""
    return f"{path.name}:{node.lineno}"


def defined(path):
    """The names that a file binds at module level, but for imports."""
    names = []
    for node in TREES[path].body:
        if isinstance(node, (ast.FunctionDef, ast.ClassDef)):
            names.append(node.name)
        elif isinstance(node, ast.Assign):
            names.append(node.targets[0].id)
    return names


def is_setter(node):
    """Whether a function sets the property of its name."""
    return [ast.unparse(one) for one in node.decorator_list] == [f"{node.name}.setter"]


class TestFiles(unittest.TestCase):

    def test_only_plain_files(self):
        found = [path for path in FOLDER.rglob("*") if "__pycache__" not in path.parts]
        self.assertEqual(sorted(path for path in found if path.is_file()), FILES)
        self.assertIn(FOLDER / "__init__.py", FILES)
        for path in FILES:
            self.assertRegex(path.name, "^[a-z_0-9]+[.]py$")

    def test_lines(self):
        for path in FILES:
            lines = path.read_text().split("\n")
            self.assertLessEqual(len(lines) - 1, 399, path)
            for at, line in enumerate(lines, 1):
                self.assertRegex(line, "^[ -~]{0,120}$", f"{path.name}:{at}")

    def test_functions_are_short(self):
        for path, node in nodes(ast.FunctionDef):
            self.assertLessEqual(node.end_lineno - node.lineno + 1, 40, place(path, node))

    def test_module_level(self):
        for path, tree in TREES.items():
            for at, node in enumerate(tree.body):
                docstring = at == 0 and isinstance(node, ast.Expr) and isinstance(node.value, ast.Constant)
                plain = isinstance(node, (ast.ImportFrom, ast.FunctionDef, ast.ClassDef, ast.Assign))
                self.assertTrue(docstring or plain, place(path, node))
            names = defined(path) + [name.name for node in tree.body if isinstance(node, ast.ImportFrom)
                                     for name in node.names]
            self.assertEqual(len(names), len(set(names)), path)

    def test_everything_tells_what_it_is_for(self):
        for path, tree in TREES.items():
            self.assertTrue(ast.get_docstring(tree), path)
        for path, node in nodes((ast.FunctionDef, ast.ClassDef)):
            if not node.name.startswith("__"):
                self.assertTrue(ast.get_docstring(node), place(path, node))


class TestImports(unittest.TestCase):

    def test_forms(self):
        self.assertEqual(nodes(ast.Import), [])
        for path, node in nodes(ast.ImportFrom):
            self.assertEqual(node.level, 0)
            self.assertFalse([name for name in node.names if name.asname or name.name == "*"], place(path, node))
            if node.module in LIBRARY:
                self.assertLessEqual({name.name for name in node.names}, LIBRARY[node.module])
                continue
            package, _, name = node.module.partition(".")
            self.assertEqual(package, "laterepair", place(path, node))
            self.assertLessEqual({name.name for name in node.names}, set(defined(FOLDER / f"{name}.py")))

    def test_imported_names_are_used(self):
        for path, node in nodes(ast.ImportFrom):
            used = {name.id for name in ast.walk(TREES[path]) if isinstance(name, ast.Name)}
            self.assertLessEqual({name.name for name in node.names}, used, place(path, node))

    def test_no_circle(self):
        behind = {path.stem: {node.module.partition(".")[2] for node in tree.body if isinstance(node, ast.ImportFrom)
                              and node.module.startswith("laterepair.")} for path, tree in TREES.items()}
        while behind:
            free = [name for name, needed in behind.items() if not needed & set(behind)]
            self.assertTrue(free, behind)
            for name in free:
                del behind[name]


class TestWords(unittest.TestCase):

    def test_statements_and_signs(self):
        kinds = (ast.Global, ast.AsyncFunctionDef, ast.Await, ast.Div, ast.Set, ast.SetComp, ast.AnnAssign,
                 ast.AugAssign, ast.Delete, ast.Match, ast.Nonlocal, ast.NamedExpr)
        self.assertEqual([place(path, node) for path, node in nodes(kinds)], [])
        for path, node in nodes(ast.Constant):
            self.assertNotIsInstance(node.value, (float, complex, bytes), place(path, node))
            if isinstance(node.value, str):
                self.assertNotIn(chr(37), node.value, place(path, node))
        for path, node in nodes(ast.BinOp):
            if isinstance(node.op, ast.Pow):
                self.assertTrue(isinstance(node.right, ast.Constant) and 0 <= node.right.value <= 64)
        for path, node in nodes(ast.Compare):
            for sign, side in zip(node.ops, node.comparators):
                if isinstance(sign, (ast.Is, ast.IsNot)):
                    self.assertTrue(isinstance(side, ast.Constant) and side.value in (None, True, False))

    def test_builtins(self):
        barred = {name for name in dir(builtins) if not name.startswith("_")} - BUILTINS
        for path, node in nodes(ast.Name):
            self.assertNotIn(node.id, barred, place(path, node))
            if isinstance(node.ctx, ast.Store):
                self.assertNotIn(node.id, dir(builtins), place(path, node))
        for path, node in nodes(ast.arg):
            self.assertNotIn(node.arg, dir(builtins), place(path, node))
            self.assertIsNone(node.annotation, place(path, node))

    def test_barred_words(self):
        for path, node in nodes((ast.Name, ast.arg, ast.FunctionDef, ast.ClassDef, ast.Attribute)):
            name = getattr(node, "id", getattr(node, "arg", getattr(node, "name", getattr(node, "attr", ""))))
            self.assertNotIn(name, BARRED, place(path, node))
            self.assertFalse(name.startswith(("_wall", "_pe_", "_enum_", "_cm_", "_law_")), place(path, node))
        for path in FILES:
            self.assertFalse(re.search("[(]type[)]|Meta|metaclass=|_wall", path.read_text()), path)

    def test_names_are_bound_once(self):
        for path, tree in TREES.items():
            taken = {name.name for node in tree.body if isinstance(node, ast.ImportFrom) for name in node.names}
            taken |= {node.name for node in tree.body if isinstance(node, ast.ClassDef)}
            for node in ast.walk(tree):
                if isinstance(node, ast.Name) and isinstance(node.ctx, ast.Store):
                    self.assertNotIn(node.id, taken, place(path, node))
                if isinstance(node, ast.arg):
                    self.assertNotIn(node.arg, taken, place(path, node))

    def test_methods(self):
        own = {node.name for _, node in nodes(ast.FunctionDef)}
        for path, node in nodes(ast.Call):
            if isinstance(node.func, ast.Attribute):
                self.assertIn(node.func.attr, METHODS | own, place(path, node))

    def test_what_stands_behind_stars(self):
        for path, node in nodes(ast.Call):
            for part in node.args:
                if isinstance(part, ast.Starred):
                    self.assertIsInstance(part.value, (ast.Name, ast.Attribute), place(path, node))

    def test_generator_expressions_are_lists(self):
        self.assertEqual([place(path, node) for path, node in nodes(ast.GeneratorExp)], [])

    def test_classes(self):
        for path, node in nodes(ast.ClassDef):
            self.assertEqual(node.decorator_list, [], place(path, node))
            names = [part.name for part in node.body if isinstance(part, ast.FunctionDef) and not is_setter(part)]
            self.assertEqual(len(names), len(set(names)), place(path, node))
            for name in names:
                if name.startswith("__"):
                    self.assertIn(name.strip("_"), DOUBLE, place(path, node))
        for path, node in nodes(ast.FunctionDef):
            for decorator in node.decorator_list:
                self.assertTrue(is_setter(node) or ast.unparse(decorator) in (
                    "property", "staticmethod", "classmethod"), place(path, node))

    def test_errors_are_own(self):
        own = {node.name for path, node in nodes(ast.ClassDef) if path.name == "errors.py"}
        for path, node in nodes(ast.Try):
            self.assertFalse(node.finalbody or node.orelse, place(path, node))
            for handler in node.handlers:
                self.assertIn(ast.unparse(handler.type), own - {"RepairError"}, place(path, node))
        for path, node in nodes(ast.Raise):
            self.assertIn(ast.unparse(node.exc.func), own | {"TypeError"}, place(path, node))

    def test_what_trials_restore(self):
        for path, node in nodes(ast.FunctionDef):
            if node.name == "__exit__":
                for row in node.body:
                    self.assertIsInstance(row, ast.Assign, place(path, node))
                    self.assertIsInstance(row.value, (ast.Attribute, ast.Name), place(path, node))

    def test_properties_are_not_assigned(self):
        names = {node.name for _, node in nodes(ast.FunctionDef)
                 if [one for one in node.decorator_list if ast.unparse(one) == "property"]}
        for path, node in nodes(ast.Attribute):
            if isinstance(node.ctx, ast.Store):
                self.assertNotIn(node.attr, names, place(path, node))

    def test_no_name_is_a_method_and_an_attribute(self):
        methods = {part.name for _, node in nodes(ast.ClassDef) for part in node.body
                   if isinstance(part, ast.FunctionDef)}
        for path, node in nodes(ast.Attribute):
            if isinstance(node.ctx, ast.Store):
                self.assertNotIn(node.attr, methods, place(path, node))
                self.assertNotIn(node.attr, METHODS, place(path, node))


if __name__ == "__main__":
    unittest.main()

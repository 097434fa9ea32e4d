"""The package keeps to its subset of Python, as far as a short reader can see."""

import ast
import builtins
import pathlib
import re
import unittest

import pullsafe

FOLDER = pathlib.Path(pullsafe.__file__).parent
FILES = sorted(FOLDER.glob("**/*.py"))

INTERFACE = {
    "errors": (
        "PullError", "BadValue", "BadText", "BadGrounds", "NoPort", "NoName", "NoDriver", "NotNow", "TooMany",
    ),
    "protocols": ("is_protocol", "ready", "after"),
    "proving": ("verdict", "run_holds", "grounds", "grounds_hold"),
    "webs": ("is_web", "is_habits", "allowed", "lawful", "way", "orders", "habits_of", "same", "web_of"),
    "buses": ("Bus",),
    "texts": ("printed", "parse"),
}

BUS_METHODS = (
    "__init__", "plug", "pull", "names", "at", "driver", "drop", "drivers", "bound", "send", "waiting", "told", "taken",
    "go", "link", "serials", "kept", "run", "copy", "__eq__",
)

MAY_CALL = (
    "len range enumerate zip min max sum abs sorted reversed int str bool list tuple dict set isinstance ord repr "
    "any all divmod Exception"
).split()

BARRED_WORDS = (
    "type typing typing_extensions enum Enum IntEnum StrEnum Flag IntFlag Generic Protocol ABC ABCMeta namedtuple "
    "NamedTuple TypedDict TYPE_CHECKING abstractmethod dataclass overload contextmanager"
).split()

BARRED_NAMES = "mro elements open input law version_info with_traceback add_note register".split()

BARRED_NODES = (
    ast.AsyncFunctionDef, ast.Global, ast.Yield, ast.YieldFrom, ast.Await, ast.With, ast.Div, ast.Import, ast.Lambda,
    ast.GeneratorExp, ast.Try, ast.Match, ast.NamedExpr, ast.Set, ast.SetComp, ast.Starred,
)

# The methods of builtin values that the package calls; each is one that the subset allows.
BUILTIN_METHODS = "append extend remove get items values join split".split()


def bound_names(tree):
    """Return all names that a file gives to something."""
    for node in ast.walk(tree):
        if isinstance(node, (ast.FunctionDef, ast.ClassDef)):
            yield node.name
        elif isinstance(node, ast.arg):
            yield node.arg
        elif isinstance(node, ast.Name) and isinstance(node.ctx, ast.Store):
            yield node.id
        elif isinstance(node, ast.alias):
            yield node.asname or node.name


class Language(unittest.TestCase):
    def test_folder_holds_plain_files_only(self):
        for path in FOLDER.glob("**/*"):
            if "__pycache__" not in path.parts:
                self.assertTrue(path.is_dir() or re.fullmatch(r"[a-z_]+\.py", path.name), path)

    def test_characters_and_sizes(self):
        for path in FILES:
            text = path.read_bytes().decode("ascii")
            self.assertTrue(all(sign == "\n" or " " <= sign <= "~" for sign in text), path)
            rows = text.splitlines()
            self.assertLessEqual(len(rows), 399, path)
            self.assertLessEqual(max(len(row) for row in rows), 120, path)
            for node in ast.walk(ast.parse(text)):
                if isinstance(node, ast.FunctionDef):
                    self.assertLessEqual(node.end_lineno - node.lineno + 1, 40, (path, node.name))

    def test_imports_name_the_file_that_defines(self):
        for path in FILES:
            for node in ast.walk(ast.parse(path.read_text())):
                if isinstance(node, ast.ImportFrom):
                    self.assertTrue(node.module.startswith("pullsafe."), path)
                    other = ast.parse((FOLDER / (node.module.split(".")[1] + ".py")).read_text())
                    for alias in node.names:
                        self.assertIsNone(alias.asname)
                        own = [row for row in other.body if not isinstance(row, ast.ImportFrom)]
                        names = [name for row in own for name in bound_names(row)]
                        self.assertIn(alias.name, names, path)

    def test_interface_is_defined_where_it_is_listed(self):
        for word, names in INTERFACE.items():
            tree = ast.parse((FOLDER / (word + ".py")).read_text())
            own = [row.name for row in tree.body if isinstance(row, (ast.FunctionDef, ast.ClassDef))]
            for name in names:
                self.assertIn(name, own)

    def test_methods_stand_in_the_class_itself(self):
        tree = ast.parse((FOLDER / "buses.py").read_text())
        bodies = [row.body for row in tree.body if isinstance(row, ast.ClassDef) and row.name == "Bus"]
        own = [row.name for row in bodies[0] if isinstance(row, ast.FunctionDef)]
        for name in BUS_METHODS:
            self.assertEqual(own.count(name), 1, name)

    def test_only_known_methods_are_called(self):
        for path in FILES:
            for node in ast.walk(ast.parse(path.read_text())):
                if isinstance(node, ast.Call) and isinstance(node.func, ast.Attribute):
                    name = node.func.attr
                    self.assertTrue(name in BUILTIN_METHODS or name.startswith("_") or name in BUS_METHODS, (path, name))

    def test_sets_are_measured_only(self):
        for path in FILES:
            tree = ast.parse(path.read_text())
            measured = [
                node.args[0] for node in ast.walk(tree)
                if isinstance(node, ast.Call) and isinstance(node.func, ast.Name) and node.func.id == "len"
            ]
            for node in ast.walk(tree):
                if isinstance(node, ast.Call) and isinstance(node.func, ast.Name) and node.func.id == "set":
                    self.assertIn(node, measured, path)

    def test_no_two_files_import_each_other(self):
        needs = {}
        for path in FILES:
            rows = [node for node in ast.walk(ast.parse(path.read_text())) if isinstance(node, ast.ImportFrom)]
            needs[path.stem] = {row.module.split(".")[1] for row in rows}
        while needs:
            free = [name for name, others in needs.items() if not others & set(needs)]
            self.assertTrue(free, needs)
            for name in free:
                del needs[name]

    def test_names(self):
        taken = set(dir(builtins))
        for path in FILES:
            tree = ast.parse(path.read_text())
            imports = [alias.name for node in ast.walk(tree) if isinstance(node, ast.ImportFrom) for alias in node.names]
            names = list(bound_names(tree))
            for name in names:
                self.assertNotIn(name, taken, path)
                self.assertNotIn(name, BARRED_NAMES, path)
                self.assertLessEqual(names.count(name) if name in imports else 0, 1, (path, name))
                if not (name.startswith("__") and name.endswith("__")):
                    self.assertRegex(name, r"^_?[A-Za-z][A-Za-z0-9_]*$|^_$")
            for node in ast.walk(tree):
                if isinstance(node, ast.Name) and isinstance(node.ctx, ast.Load) and node.id in taken:
                    self.assertIn(node.id, MAY_CALL, path)
                self.assertNotIsInstance(node, BARRED_NODES, path)

    def test_module_level(self):
        for path in FILES:
            for row in ast.parse(path.read_text()).body:
                self.assertIsInstance(row, (ast.Expr, ast.ImportFrom, ast.Assign, ast.FunctionDef, ast.ClassDef), path)
                if isinstance(row, ast.Assign):
                    ast.literal_eval(row.value)
                if isinstance(row, ast.Expr):
                    self.assertIsInstance(row.value, ast.Constant, path)

    def test_words(self):
        for path in FILES:
            tree = ast.parse(path.read_text())
            for node in ast.walk(tree):
                if isinstance(node, (ast.Module, ast.FunctionDef, ast.ClassDef)):
                    if ast.get_docstring(node) is not None:
                        node.body = node.body[1:] or [ast.Pass()]
            for word in re.findall(r"\w+", ast.unparse(tree)):
                self.assertNotIn(word, BARRED_WORDS, path)


if __name__ == "__main__":
    unittest.main()

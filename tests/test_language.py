"""The rules of the language that can be seen in a file by itself: sizes, signs, words, imports, forms."""

import ast
import pathlib
import re
import unittest

PACKAGE = pathlib.Path(__file__).resolve().parent.parent / "fenlevel"
FILES = sorted(PACKAGE.glob("*.py"))
WORDS = ("type typing typing_extensions enum Enum IntEnum StrEnum Flag IntFlag Generic Protocol ABC ABCMeta "
         "namedtuple NamedTuple TypedDict TYPE_CHECKING abstractmethod").split()
BARRED_NAMES = "register mro elements open input version_info with_traceback add_note".split()
BARRED_FORMS = (ast.With, ast.Match, ast.Global, ast.Nonlocal, ast.Yield, ast.YieldFrom, ast.AsyncFunctionDef,
                ast.Await, ast.GeneratorExp, ast.NamedExpr, ast.Div, ast.Import)
BUILTINS = set("""len range enumerate zip min max sum abs sorted reversed int str bool bytes list tuple dict set
    isinstance ord repr any all divmod Exception ValueError TypeError KeyError IndexError LookupError
    ZeroDivisionError ArithmeticError OverflowError RuntimeError NotImplementedError AttributeError
    StopIteration""".split())
METHODS = set("""append clear copy count endswith extend find get index insert isalnum isalpha isdigit islower
    isspace isupper items join keys ljust lower lstrip partition pop remove replace reverse rfind rjust rpartition
    rsplit rstrip setdefault split splitlines startswith strip update upper values zfill bit_length""".split())
ALL_BUILTINS = set(dir(__builtins__) if not isinstance(__builtins__, dict) else __builtins__)
# What values of Python's own have as methods or attributes, so that own ones may not be called so.
ATTRIBUTES = {name for kind in (str, int, list, tuple, dict, set, bytes) for name in dir(kind)}
ON_THE_SPOT = ("zip", "enumerate", "reversed", "range", "items", "keys", "values")
TAKERS = "list tuple dict sorted sum any all enumerate zip bytes min max".split()
MODULE_FORMS = (ast.ImportFrom, ast.FunctionDef, ast.ClassDef, ast.Assign)


def called(node):
    """The name by which a function or a method is called, or None."""
    if not isinstance(node, ast.Call):
        return None
    return node.func.id if isinstance(node.func, ast.Name) else getattr(node.func, "attr", None)


def parents_of(nodes):
    """For each node the one that it stands in."""
    return {child: node for node in nodes for child in ast.iter_child_nodes(node)}


class Language(unittest.TestCase):
    def each(self):
        texts = [(path, path.read_text(encoding="utf-8")) for path in FILES]
        return [(path, text, list(ast.walk(ast.parse(text)))) for path, text in texts]

    def classes(self):
        """The classes of the package, each as its node."""
        return [node for path, text, nodes in self.each() for node in nodes if isinstance(node, ast.ClassDef)]

    def own_methods(self):
        return {node.name for each in self.classes() for node in each.body if isinstance(node, ast.FunctionDef)}

    def own_errors(self):
        """The names of the error classes, which all stand in one file."""
        text = (PACKAGE / "errors.py").read_text(encoding="utf-8")
        return {node.name for node in ast.parse(text).body if isinstance(node, ast.ClassDef)}

    def test_the_folder(self):
        found = [path for path in PACKAGE.iterdir() if path.name != "__pycache__"]
        self.assertEqual(sorted(found), FILES)
        self.assertIn("__init__.py", [path.name for path in FILES])
        for path in FILES:
            self.assertRegex(path.name, r"\A[a-z0-9_]+\.py\Z")

    def test_sizes_and_signs(self):
        for path, text, nodes in self.each():
            self.assertRegex(text, r"\A[\n -~]*\Z")
            self.assertLessEqual(len(text.splitlines()), 400)
            self.assertLessEqual(max(map(len, text.splitlines())), 120)
            for node in nodes:
                if isinstance(node, ast.FunctionDef):
                    self.assertLessEqual(node.end_lineno - node.lineno + 1, 40)
                if isinstance(node, ast.Constant) and isinstance(node.value, str):
                    self.assertNotIn("%", node.value)

    def test_words_and_names(self):
        for path, text, nodes in self.each():
            self.assertEqual([word for word in WORDS if re.search(rf"\b{word}\b", text)], [])
            self.assertNotRegex(text, "dataclass|overload|contextmanager")
            for node in nodes:
                for field in ("id", "attr", "arg", "name"):
                    name = getattr(node, field, None)
                    self.assertNotIn(name, BARRED_NAMES)
                    if isinstance(name, str) and name not in ("__init__", "__eq__", "__repr__", "__str__", "__len__"):
                        self.assertFalse(name.startswith("_"), name)

    def test_imports_and_forms(self):
        for path, text, nodes in self.each():
            for node in nodes:
                self.assertNotIsInstance(node, BARRED_FORMS)
                if isinstance(node, ast.ImportFrom):
                    self.assertEqual((node.level, node.module.split(".")[0]), (0, "fenlevel"))
                if isinstance(node, (ast.FunctionDef, ast.ClassDef)):
                    self.assertEqual(node.decorator_list, [])
                if isinstance(node, ast.FunctionDef):
                    self.assertIsNone(node.args.vararg or node.args.kwarg)
                if isinstance(node, (ast.For, ast.While)):
                    self.assertEqual(node.orelse, [])

    def test_imports_name_the_file_that_defines_and_go_one_way(self):
        defined = {}
        imported = {}
        for path, text, nodes in self.each():
            name = f"fenlevel.{path.stem}"
            defined[name] = [node.name for node in ast.parse(text).body
                             if isinstance(node, (ast.FunctionDef, ast.ClassDef))]
            self.assertEqual(len(set(defined[name])), len(defined[name]))
            imported[name] = [node for node in nodes if isinstance(node, ast.ImportFrom)]
        for name, nodes in imported.items():
            for node in nodes:
                for alias in node.names:
                    self.assertIn(alias.name, defined[node.module])
        # Files without an import left are taken away until none is left; a ring of imports would stay.
        waiting = {name: {node.module for node in nodes} for name, nodes in imported.items()}
        while waiting:
            ready = [name for name in waiting if not waiting[name] & set(waiting)]
            self.assertTrue(ready, waiting)
            for name in ready:
                del waiting[name]

    def test_no_name_of_an_import_or_a_class_means_something_else(self):
        for path, text, nodes in self.each():
            names = {alias.name for node in nodes if isinstance(node, ast.ImportFrom) for alias in node.names}
            names |= {node.name for node in nodes if isinstance(node, ast.ClassDef)}
            stored = {node.id for node in nodes if isinstance(node, ast.Name) and isinstance(node.ctx, ast.Store)}
            stored |= {node.arg for node in nodes if isinstance(node, ast.arg)}
            self.assertEqual(names & stored, set())

    def test_methods_and_sets(self):
        own = self.own_methods()
        for path, text, nodes in self.each():
            parents = parents_of(nodes)
            for node in nodes:
                if isinstance(node, ast.Call) and isinstance(node.func, ast.Attribute):
                    self.assertIn(node.func.attr, METHODS | own)
                    self.assertEqual(node.keywords, [])
                if isinstance(node, (ast.Set, ast.SetComp)) or called(node) == "set":
                    holder = parents[node]
                    self.assertTrue(called(holder) in ("sorted", "len") or isinstance(holder, ast.Compare), path.name)
                if isinstance(node, ast.Starred):
                    self.assertIsInstance(node.ctx, ast.Store)
                if isinstance(node, ast.Compare) and isinstance(node.ops[0], (ast.Is, ast.IsNot)):
                    self.assertIsInstance(node.comparators[0], ast.Constant)

    def test_iterated_on_the_spot(self):
        for path, text, nodes in self.each():
            parents = parents_of(nodes)
            for node in nodes:
                if called(node) in ON_THE_SPOT:
                    holder = parents[node]
                    fits = isinstance(holder, (ast.For, ast.comprehension)) or called(holder) in TAKERS
                    tested = isinstance(holder, ast.Compare) and isinstance(holder.ops[0], (ast.In, ast.NotIn))
                    self.assertTrue(fits or tested and called(node) in ("range", "keys"), (path.name, node.lineno))

    def test_own_methods_and_attributes(self):
        methods = self.own_methods()
        self.assertEqual({name for name in methods if name in ATTRIBUTES - METHODS}, {"__init__"})
        assigned = set()
        read = set()
        for path, text, nodes in self.each():
            handed = {node.func for node in nodes if isinstance(node, ast.Call)}
            for node in nodes:
                if isinstance(node, ast.Attribute) and node not in handed:
                    (assigned if isinstance(node.ctx, ast.Store) else read).add(node.attr)
        self.assertEqual(assigned & methods, set())
        self.assertEqual(assigned & ATTRIBUTES, set())
        self.assertEqual(read - assigned, set())

    def test_classes(self):
        for node in self.classes():
            names = [each.name for each in node.body if isinstance(each, ast.FunctionDef)]
            self.assertEqual(len(set(names)), len(names))
            self.assertLessEqual(len(node.bases), 1)
            for each in node.body:
                docstring = isinstance(each, ast.Expr) and isinstance(each.value, ast.Constant)
                self.assertTrue(docstring or isinstance(each, ast.FunctionDef), node.name)

    def test_errors_by_name(self):
        own = self.own_errors()
        for path, text, nodes in self.each():
            for node in nodes:
                if isinstance(node, ast.Raise):
                    self.assertIn(called(node.exc), own)
                if isinstance(node, ast.ExceptHandler):
                    self.assertIn(node.type.id, own)
                    self.assertIsNone(node.name)

    def test_module_level(self):
        for path, text, nodes in self.each():
            for node in ast.parse(text).body[1:]:
                self.assertIsInstance(node, MODULE_FORMS)
            for node in nodes:
                if isinstance(node, ast.FunctionDef):
                    self.assertEqual(node.args.defaults + node.args.kw_defaults + node.args.posonlyargs, [])

    def test_texts(self):
        for path, text, nodes in self.each():
            self.assertNotRegex(text, r"\\[^n]")
            for node in nodes:
                if isinstance(node, ast.FormattedValue):
                    self.assertIsNone(node.format_spec)
                    self.assertFalse([each for each in ast.walk(node.value) if isinstance(each, ast.Constant)])

    def test_builtins(self):
        for path, text, nodes in self.each():
            for node in nodes:
                if isinstance(node, ast.Name) and node.id in ALL_BUILTINS:
                    self.assertIn(node.id, BUILTINS)
                    self.assertIsInstance(node.ctx, ast.Load)
                if isinstance(node, ast.arg):
                    self.assertNotIn(node.arg, ALL_BUILTINS)


if __name__ == "__main__":
    unittest.main()

"""Tests that the files of the package keep to the subset of Python in which the program is written."""

import ast
import os
import re
import unittest
import warnings

import wholefetch

FOLDER = os.path.dirname(wholefetch.__file__)
BUILTINS = set("""len range enumerate zip min max sum abs sorted reversed int str bool list tuple dict set isinstance ord
repr any all divmod Exception ValueError TypeError KeyError IndexError LookupError ZeroDivisionError ArithmeticError
OverflowError RuntimeError NotImplementedError AttributeError StopIteration NotImplemented iter next super property
staticmethod classmethod""".split())
BARRED = re.compile(r"\b(type|typing|typing_extensions|enum|Enum|IntEnum|StrEnum|Flag|IntFlag|Generic|Protocol|ABC|ABCMeta"
                    r"|namedtuple|NamedTuple|TypedDict|TYPE_CHECKING|abstractmethod)\b|dataclass|overload|contextmanager")
UNUSED = set("""register mro elements open input law version_info with_traceback add_note attrgetter breakpoint builtins
compile copyright credits delattr dir eval exec exit gc getattr globals hasattr help id importlib license locals
methodcaller os quit setattr type vars sys""".split())
METHODS = set("""append clear copy count endswith extend find get index insert isalnum isalpha isdigit islower isspace
isupper items join keys ljust lower lstrip partition pop remove replace reverse rfind rjust rpartition rsplit rstrip
setdefault split splitlines startswith strip update upper values zfill bit_length""".split())
DUNDERS = set("__init__ __eq__ __len__ __repr__ __str__ __enter__ __exit__ __iter__ __getitem__ __setitem__ "
              "__contains__".split())
# Python's own names are asked off a list of its own, since the tests may run under several versions.
ALL_BUILTINS = set(dir(__builtins__) if not isinstance(__builtins__, dict) else __builtins__)


def sources():
    """The path, the text and the tree of each file of the package."""
    told = []
    for name in sorted(os.listdir(FOLDER)):
        if name != "__pycache__":
            with open(os.path.join(FOLDER, name), encoding="utf-8", newline="") as file:
                text = file.read()
            told.append((name, text, ast.parse(text)))
    return told


def functions(tree):
    """All functions and methods of a tree."""
    return [node for node in ast.walk(tree) if isinstance(node, ast.FunctionDef)]


class LanguageTest(unittest.TestCase):

    def test_files(self):
        for name, text, tree in sources():
            self.assertRegex(name, r"^[a-z][a-z0-9_]*\.py$|^__init__\.py$")
            self.assertRegex(text, r"\A[\n -~]*\Z")
            lines = text.split("\n")
            self.assertLessEqual(len(lines), 400)
            self.assertLessEqual(max(len(line) for line in lines), 120)
            self.assertIsNone(BARRED.search(text), name)
            with warnings.catch_warnings():
                warnings.simplefilter("error")
                compile(text, name, "exec")

    def test_module_level(self):
        for name, text, tree in sources():
            for node in tree.body:
                if isinstance(node, ast.Expr):
                    self.assertIsInstance(node.value.value, str)
                elif isinstance(node, ast.ImportFrom):
                    self.assertEqual(node.level, 0)
                    self.assertTrue(node.module.startswith("wholefetch."))
                    self.assertNotIn("*", [alias.name for alias in node.names])
                else:
                    self.assertIsInstance(node, (ast.FunctionDef, ast.ClassDef, ast.Assign))
            for node in ast.walk(tree):
                if isinstance(node, ast.ImportFrom):
                    self.assertIn(node, tree.body)

    def test_imports_name_the_file_that_defines(self):
        defined = {}
        for name, text, tree in sources():
            nodes = [node for node in tree.body if isinstance(node, (ast.FunctionDef, ast.ClassDef))]
            names = [node.name for node in nodes]
            names += [target.id for node in tree.body if isinstance(node, ast.Assign) for target in node.targets]
            self.assertEqual(len(names), len(set(names)))
            defined["wholefetch." + name[:-3]] = names
        for name, text, tree in sources():
            for node in tree.body:
                for alias in node.names if isinstance(node, ast.ImportFrom) else []:
                    self.assertIn(alias.name, defined[node.module])

    def test_no_rings_of_imports(self):
        ahead = {"wholefetch." + name[:-3]: [node.module for node in tree.body if isinstance(node, ast.ImportFrom)]
                 for name, text, tree in sources()}
        while ahead:
            free = [name for name, needs in ahead.items() if not any(need in ahead for need in needs)]
            self.assertTrue(free)
            ahead = {name: needs for name, needs in ahead.items() if name not in free}

    def test_functions_are_small(self):
        for name, text, tree in sources():
            for node in functions(tree):
                self.assertLessEqual(node.end_lineno - node.lineno + 1, 40, node.name)

    def test_statements_and_expressions(self):
        barred = (ast.Import, ast.Global, ast.AsyncFunctionDef, ast.Await, ast.Set, ast.SetComp, ast.GeneratorExp,
                  ast.Div, ast.NamedExpr, ast.Starred)
        for name, text, tree in sources():
            starred = [node for outer in ast.walk(tree) if isinstance(outer, (ast.Tuple, ast.List)) for node in outer.elts]
            for node in ast.walk(tree):
                self.assertTrue(not isinstance(node, barred) or node in starred, f"{name} {node}")
                if isinstance(node, ast.Constant):
                    self.assertNotIsInstance(node.value, (float, complex, bytes))
                    self.assertNotIn("%", str(node.value))
                if isinstance(node, ast.Compare) and any(isinstance(op, (ast.Is, ast.IsNot)) for op in node.ops):
                    self.assertTrue(all(right.value in (None, True, False) for right in node.comparators))
                if isinstance(node, ast.Raise) and node.exc is not None:
                    self.assertIsInstance(node.exc, ast.Call)
                if isinstance(node, ast.ExceptHandler):
                    self.assertIsNotNone(node.type)

    def test_names(self):
        for name, text, tree in sources():
            imported = {alias.name for node in tree.body if isinstance(node, ast.ImportFrom) for alias in node.names}
            classes = {node.name for node in tree.body if isinstance(node, ast.ClassDef)}
            stored = [node.id for node in ast.walk(tree)
                      if isinstance(node, ast.Name) and not isinstance(node.ctx, ast.Load)]
            stored += [arg.arg for node in functions(tree) for arg in node.args.args]
            stored += [node.name for node in ast.walk(tree) if isinstance(node, ast.ExceptHandler) and node.name]
            for told in stored:
                self.assertNotIn(told, imported | classes, name)
            methods = {node.name for outer in ast.walk(tree) if isinstance(outer, ast.ClassDef) for node in outer.body
                       if isinstance(node, ast.FunctionDef)}
            plain = [node.name for node in functions(tree) if node.name not in methods | DUNDERS]
            for told in stored + plain + list(classes):
                self.assertFalse(told.startswith("_"), told)
                self.assertNotIn(told, UNUSED | ALL_BUILTINS, name)
            for told in methods:
                self.assertTrue(told in DUNDERS or not told.startswith("_"), told)

    def test_builtins_and_methods(self):
        own = {node.name for name, text, tree in sources() for node in functions(tree)}
        for name, text, tree in sources():
            for node in ast.walk(tree):
                if isinstance(node, ast.Name) and node.id in ALL_BUILTINS:
                    self.assertIn(node.id, BUILTINS, name)
                if isinstance(node, ast.Call) and isinstance(node.func, ast.Attribute):
                    self.assertIn(node.func.attr, METHODS | own, name)

    def test_methods_and_attributes_are_apart(self):
        trees = [tree for name, text, tree in sources()]
        classes = [node for tree in trees for node in tree.body if isinstance(node, ast.ClassDef)]
        methods = {node.name for outer in classes for node in functions(outer)}
        stored = {node.attr for tree in trees for node in ast.walk(tree)
                  if isinstance(node, ast.Attribute) and isinstance(node.ctx, ast.Store)}
        read = {node.attr for tree in trees for node in ast.walk(tree)
                if isinstance(node, ast.Attribute) and isinstance(node.ctx, ast.Load)}
        self.assertEqual(methods & stored, set())
        self.assertLessEqual(read, methods | stored | METHODS)
        for told in stored:
            self.assertFalse(any(hasattr(kind, told) for kind in (str, int, list, dict, set, bytes)), told)

    def test_classes(self):
        for name, text, tree in sources():
            for outer in [node for node in tree.body if isinstance(node, ast.ClassDef)]:
                told = {node.name: node for node in functions(outer)}
                self.assertEqual(len(told), len(functions(outer)))
                self.assertTrue("__getitem__" not in told or "__iter__" in told)
                for node in told.values():
                    marks = [mark.id for mark in node.decorator_list]
                    self.assertIn(marks, ([], ["property"]))
                    self.assertTrue(not marks or len(node.args.args) == 1)
                # Behind a block nothing may go wrong, so values are only put where they were.
                for row in told["__exit__"].body if "__exit__" in told else []:
                    self.assertIsInstance(row, ast.Assign)
                    self.assertIsInstance(row.value, (ast.Attribute, ast.Name))

    def test_nothing_is_decorated_outside_of_classes(self):
        for name, text, tree in sources():
            for node in tree.body:
                self.assertEqual(getattr(node, "decorator_list", []), [])


if __name__ == "__main__":
    unittest.main()

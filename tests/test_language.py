"""The rules of the language that can be seen in the code, file by file."""

import ast
import builtins
import pathlib
import re
import unittest

PACKAGE = pathlib.Path(__file__).resolve().parent.parent / "roomsback"
FILES = sorted(path for path in PACKAGE.rglob("*") if "__pycache__" not in path.parts and path.is_file())
TREES = {path.stem: ast.parse(path.read_text(encoding="utf-8")) for path in FILES}

# L8: no other builtin is used.
ALLOWED = set("""len range enumerate zip min max sum abs sorted reversed int str bool bytes list tuple dict set
    isinstance ord repr any all divmod iter next map Exception ValueError TypeError KeyError IndexError LookupError
    ZeroDivisionError ArithmeticError OverflowError RuntimeError NotImplementedError AttributeError StopIteration
    NotImplemented property staticmethod classmethod super""".split())
# Where examples were run before, Python calls the last result _.
BUILTINS = set(dir(builtins)) - {"_"}
# L23: what a generator's call may stand in, beside loops.
ITERATING = ("list", "tuple", "sorted", "sum", "any", "all", "enumerate", "zip")
METHODS = set("""__init__ __eq__ __repr__ __str__ __len__ __enter__ __exit__ __call__ __iter__ __add__ __sub__
    __and__ __or__ __contains__ __getitem__ __setitem__ __iadd__""".split())
BARRED = (ast.Global, ast.AsyncFunctionDef, ast.Await, ast.AsyncFor, ast.AsyncWith, ast.Div, ast.Import)
# L17: neither as names nor as attributes, and not in strings.
NAMES = set("register mro elements open input law version_info".split())
WORDS = re.compile(r"\b(type|typing|enum|Enum|Flag|Generic|Protocol|ABC|namedtuple)\b|dataclass|overload|contextmanager")


def functions(tree):
    return [node for node in ast.walk(tree) if isinstance(node, ast.FunctionDef)]


def bound_names(node):
    """The parameters and local variables of a function, without those of functions nested in it."""
    names = [arg.arg for arg in ast.walk(node.args) if isinstance(arg, ast.arg)]
    return names + [part.id for part in ast.walk(node) if isinstance(part, ast.Name) and isinstance(part.ctx, ast.Store)]


def imports(tree):
    return [node for node in tree.body if isinstance(node, ast.ImportFrom)]


class Language(unittest.TestCase):
    def test_files(self):
        self.assertTrue(FILES)
        self.assertLessEqual(len(FILES), 100)
        for path in FILES:
            self.assertRegex(str(path.relative_to(PACKAGE)), r"^[a-z0-9_]+\.py$")
            text = path.read_text(encoding="utf-8")
            self.assertRegex(text, r"\A[ -~\n]*\Z", path)
            self.assertNotIn("%", text, path)
            self.assertLessEqual(len(text.splitlines()), 399, path)
            self.assertLessEqual(max(map(len, text.splitlines())), 120, path)

    def test_module_level(self):
        plain = (ast.FunctionDef, ast.ClassDef, ast.ImportFrom)
        for name, tree in TREES.items():
            self.assertTrue(ast.get_docstring(tree), name)
            for node in tree.body[1:]:
                if isinstance(node, ast.Assign) and isinstance(node.value, ast.Dict):
                    # L3: a dict may have functions that are defined above.
                    above = [part.name for part in tree.body if isinstance(part, ast.FunctionDef) and part.lineno < node.lineno]
                    for key, worth in zip(node.value.keys, node.value.values):
                        ast.literal_eval(key)
                        self.assertTrue(isinstance(worth, ast.Name) and worth.id in above or ast.literal_eval(worth))
                elif isinstance(node, ast.Assign):
                    ast.literal_eval(node.value)
                if isinstance(node, ast.Assign):
                    self.assertEqual(len(node.targets), 1)
                else:
                    self.assertIsInstance(node, plain, (name, node.lineno))

    def test_functions(self):
        for name, tree in TREES.items():
            for node in functions(tree):
                self.assertLessEqual(node.end_lineno - node.lineno + 1, 40, (name, node.name))
                if node.name.startswith("__"):
                    self.assertIn(node.name, METHODS, name)
                for mark in node.decorator_list:
                    allowed = ("property", "staticmethod", "classmethod", f"{node.name}.setter")
                    self.assertIn(ast.unparse(mark), allowed, (name, node.name))

    def test_statements(self):
        for name, tree in TREES.items():
            for node in ast.walk(tree):
                self.assertNotIsInstance(node, BARRED, (name, getattr(node, "lineno", 0)))
                if isinstance(node, ast.Constant):
                    self.assertNotIsInstance(node.value, (float, complex), name)
                if isinstance(node, ast.Constant) and isinstance(node.value, str):
                    self.assertIsNone(WORDS.search(node.value), (name, node.lineno))
                if isinstance(node, ast.ExceptHandler):
                    self.assertIsNotNone(node.type, name)

    def test_names(self):
        for name, tree in TREES.items():
            own = {node.name for node in tree.body if isinstance(node, (ast.FunctionDef, ast.ClassDef))}
            classes = {node.name for node in tree.body if isinstance(node, ast.ClassDef)}
            imported = {alias.name for node in imports(tree) for alias in node.names}
            self.assertEqual(len(own & imported), 0, name)
            for node in functions(tree):
                bound = set(bound_names(node))
                self.assertEqual(bound & (classes | imported), set(), (name, node.name))
                self.assertEqual(bound & BUILTINS, set(), (name, node.name))
                self.assertEqual((bound | {node.name}) & NAMES, set(), (name, node.name))
            for node in ast.walk(tree):
                if isinstance(node, ast.Name) and node.id in BUILTINS:
                    self.assertIn(node.id, ALLOWED, (name, node.lineno))

    def test_imports(self):
        known = {}
        for name, tree in TREES.items():
            known[name] = {node.module.split(".")[1] for node in imports(tree)}
            for node in imports(tree):
                package, module = node.module.split(".")
                self.assertEqual((package, node.level), ("roomsback", 0), name)
                # The very file that defines the name.
                defined = {part.name for part in TREES[module].body if hasattr(part, "name")}
                defined |= {ast.unparse(part.targets[0]) for part in TREES[module].body if isinstance(part, ast.Assign)}
                for alias in node.names:
                    self.assertIn(alias.name, defined, name)
                    self.assertIsNone(alias.asname)
                    self.assertGreater(sum(isinstance(part, ast.Name) and part.id == alias.name
                                           for part in ast.walk(tree)), 0, (name, alias.name))
        while known:
            free = [name for name in known if not known[name] & set(known)]
            self.assertTrue(free, ("these import each other", known))
            for name in free:
                del known[name]

    def test_generators(self):
        every = [node for tree in TREES.values() for node in functions(tree)]
        made = {node.name for node in every if any(isinstance(part, (ast.Yield, ast.YieldFrom)) for part in ast.walk(node))}
        for name in made:
            # L23: no other function or method has a generator's name.
            self.assertEqual(len([node for node in every if node.name == name]), 1, name)
        for name, tree in TREES.items():
            iterated = []
            for node in ast.walk(tree):
                if isinstance(node, (ast.For, ast.comprehension)):
                    iterated.append(node.iter)
                elif isinstance(node, ast.YieldFrom):
                    iterated.append(node.value)
                elif isinstance(node, ast.Call) and ast.unparse(node.func) in ITERATING:
                    iterated += node.args[:1]
            for node in ast.walk(tree):
                called = node.func if isinstance(node, ast.Call) else None
                word = called.id if isinstance(called, ast.Name) else getattr(called, "attr", None)
                if word in made:
                    self.assertIn(node, iterated, (name, node.lineno))

    def test_changes_within_operators(self):
        # L5: where a class has an in-place plus, operators, properties and what they call have none at all.
        for name, tree in TREES.items():
            for node in ast.walk(tree):
                self.assertNotIsInstance(node, ast.AugAssign, (name, getattr(node, "lineno", 0)))

    def test_ends_of_trials(self):
        # L6: the rows of __exit__ assign attributes, and nothing else.
        for name, tree in TREES.items():
            for node in functions(tree):
                for row in node.body if node.name == "__exit__" else ():
                    self.assertIsInstance(row, ast.Assign, (name, row.lineno))
                    self.assertIsInstance(row.targets[0], ast.Attribute)
                    self.assertIsInstance(row.value, ast.Attribute)

    def test_sets_and_comparisons(self):
        for name, tree in TREES.items():
            for node in ast.walk(tree):
                if isinstance(node, ast.Compare):
                    for sign, side in zip(node.ops, node.comparators):
                        if isinstance(sign, (ast.Is, ast.IsNot)):
                            self.assertIn(ast.unparse(side), ("None", "True", "False"), (name, node.lineno))
                # Where a class has __eq__, these take lists.
                if isinstance(node, ast.Call) and ast.unparse(node.func) in ("any", "all", "sum", "min", "max", "sorted"):
                    for arg in node.args:
                        self.assertNotIsInstance(arg, ast.GeneratorExp, (name, node.lineno))
                if isinstance(node, (ast.For, ast.comprehension)):
                    self.assertNotIsInstance(node.iter, (ast.Set, ast.SetComp), name)


if __name__ == "__main__":
    unittest.main()

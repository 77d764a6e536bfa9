"""The files of the package keep to the subset of Python, as far as a short test can see it."""

import ast
import pathlib
import re
import unittest

FOLDER = pathlib.Path(__file__).resolve().parent.parent / "cutshows"
BUILTINS = set(
    "len range enumerate zip min max sum abs sorted reversed int str bool bytes list tuple dict set frozenset "
    "isinstance ord repr any all divmod iter next map Exception ValueError TypeError KeyError IndexError LookupError "
    "ZeroDivisionError ArithmeticError OverflowError RuntimeError NotImplementedError AttributeError "
    "StopIteration NotImplemented super property classmethod staticmethod".split()
)
LIBRARY = {
    "heapq": {"heappush", "heappop", "heapify", "heapreplace", "heappushpop"},
    "math": {"gcd", "lcm", "isqrt", "comb", "perm", "factorial"},
    "itertools": {"product", "combinations", "permutations"},
}
TAKE_LISTS = {"any", "all", "min", "max", "sum", "sorted"}
UNCHANGING = {"__eq__", "__repr__", "__str__", "__len__"}
PLAIN = (ast.Constant, ast.Tuple, ast.List, ast.Dict, ast.UnaryOp, ast.USub, ast.Load)
WORDS = set(
    "typing typing_extensions enum Enum IntEnum StrEnum Flag IntFlag Generic Protocol ABC ABCMeta namedtuple "
    "NamedTuple TypedDict TYPE_CHECKING abstractmethod".split()
)
NAMES = set("register mro elements open input law version_info with_traceback add_note".split())
NOT_USED = (
    ast.Global, ast.AsyncFunctionDef, ast.AsyncFor, ast.AsyncWith, ast.Await, ast.Import, ast.Div,
)


def names_of(tree):
    """All names that a file binds anywhere."""
    found = set()
    for node in ast.walk(tree):
        if isinstance(node, (ast.FunctionDef, ast.ClassDef)):
            found.add(node.name)
        elif isinstance(node, ast.arg):
            found.add(node.arg)
        elif isinstance(node, ast.alias):
            found.add(node.asname or node.name)
        elif isinstance(node, ast.Name) and not isinstance(node.ctx, ast.Load):
            found.add(node.id)
    return found


class Language(unittest.TestCase):
    def setUp(self):
        self.texts = {path: path.read_text("ascii") for path in sorted(FOLDER.rglob("*.py"))}
        self.trees = {path: ast.parse(text) for path, text in self.texts.items()}
        self.assertTrue(self.texts)

    def nodes(self, *kinds):
        for path, tree in self.trees.items():
            for node in ast.walk(tree):
                if isinstance(node, kinds):
                    yield f"{path.name}:{getattr(node, 'lineno', '')}", node

    def test_only_python_files(self):
        for path in FOLDER.rglob("*"):
            if path.name != "__pycache__" and path.parent.name != "__pycache__":
                self.assertRegex(path.name, r"^[a-z0-9_]+\.py$")

    def test_lines_and_files(self):
        for path, text in self.texts.items():
            lines = text.split("\n")
            self.assertLessEqual(len(lines), 400, path)
            for line in lines:
                self.assertLessEqual(len(line), 120, path)
                self.assertRegex(line, r"^[ -~]*$", path)

    def test_functions_are_short(self):
        for where, node in self.nodes(ast.FunctionDef):
            self.assertLessEqual(node.end_lineno - node.lineno + 1, 40, where)

    def test_imports(self):
        for where, node in self.nodes(ast.ImportFrom):
            names = {alias.name for alias in node.names}
            self.assertEqual(node.level, 0, where)
            if node.module in LIBRARY:
                self.assertLessEqual(names, LIBRARY[node.module], where)
            else:
                self.assertRegex(node.module, r"^cutshows\.", where)
            self.assertNotIn("*", names, where)

    def test_statements_and_signs(self):
        for where, node in self.nodes(*NOT_USED):
            self.fail(f"{where}: {node.__class__.__name__}")

    def test_builtins(self):
        import builtins
        # Examples that are run leave their last value behind under this name.
        known = set(dir(builtins)) - {"_"}
        for path, tree in self.trees.items():
            bound = names_of(tree)
            self.assertEqual(bound & known, set(), path)
            for node in ast.walk(tree):
                if isinstance(node, ast.Name) and node.id in known:
                    self.assertIn(node.id, BUILTINS, f"{path.name}:{node.lineno}")

    def test_locals_have_no_names_of_classes_and_imports(self):
        for path, tree in self.trees.items():
            told = {alias.name for node in ast.walk(tree) if isinstance(node, ast.ImportFrom) for alias in node.names}
            told |= {node.name for node in tree.body if isinstance(node, ast.ClassDef)}
            for function in ast.walk(tree):
                if isinstance(function, ast.FunctionDef):
                    stored = {node.arg for node in ast.walk(function) if isinstance(node, ast.arg)}
                    stored |= {node.id for node in ast.walk(function)
                               if isinstance(node, ast.Name) and isinstance(node.ctx, ast.Store)}
                    self.assertEqual(stored & told, set(), f"{path.name}:{function.lineno}")

    def test_sets_are_not_kept(self):
        for where, node in self.nodes(ast.Assign):
            self.assertNotIsInstance(node.value, (ast.Set, ast.SetComp), where)
            if isinstance(node.value, ast.Call):
                self.assertNotIn(ast.unparse(node.value.func), ("set", "frozenset"), where)

    def test_decorators(self):
        allowed = {"property", "classmethod", "staticmethod"}
        for where, node in self.nodes(ast.FunctionDef, ast.ClassDef):
            for sign in node.decorator_list:
                if not (isinstance(sign, ast.Attribute) and sign.attr == "setter"):
                    self.assertIn(ast.unparse(sign), allowed, where)

    def test_lists_instead_of_generator_expressions(self):
        for where, node in self.nodes(ast.Call):
            if isinstance(node.func, ast.Name) and node.func.id in TAKE_LISTS:
                self.assertFalse(any(isinstance(told, ast.GeneratorExp) for told in node.args), where)

    def test_literals(self):
        for where, node in self.nodes(ast.Constant):
            self.assertNotIsInstance(node.value, (float, complex), where)
            if isinstance(node.value, str):
                self.assertNotIn(chr(37), node.value, where)

    def test_handlers_name_their_errors(self):
        for where, node in self.nodes(ast.ExceptHandler):
            self.assertIsNotNone(node.type, where)

    def test_objects_with_an_index_are_not_iterated_over(self):
        for where, node in self.nodes(ast.ClassDef):
            methods = {part.name for part in node.body if isinstance(part, ast.FunctionDef)}
            if "__getitem__" in methods:
                self.assertIn("__iter__", methods, where)

    def test_module_level(self):
        for path, tree in self.trees.items():
            for place, node in enumerate(tree.body):
                if isinstance(node, ast.Assign):
                    self.assertIsInstance(node.targets[0], ast.Name)
                    self.assertEqual(len(node.targets), 1)
                    for part in ast.walk(node.value):
                        self.assertIsInstance(part, PLAIN, f"{path.name}:{node.lineno}")
                elif isinstance(node, ast.Expr):
                    self.assertEqual(place, 0, f"{path.name}:{node.lineno}")
                else:
                    self.assertIsInstance(node, (ast.ImportFrom, ast.FunctionDef, ast.ClassDef))

    def test_no_two_files_import_from_each_other(self):
        imported = {
            f"cutshows.{path.stem}": {node.module for node in tree.body if isinstance(node, ast.ImportFrom)}
            for path, tree in self.trees.items()
        }
        for name in imported:
            waiting, found = list(imported[name]), set()
            while waiting:
                other = waiting.pop()
                if other not in found and other in imported:
                    found.add(other)
                    waiting.extend(imported[other])
            self.assertNotIn(name, found)

    def test_methods_that_assign_nothing(self):
        for where, node in self.nodes(ast.FunctionDef):
            if node.name in UNCHANGING:
                for part in ast.walk(node):
                    self.assertNotIsInstance(part, (ast.Assign, ast.AugAssign, ast.AnnAssign, ast.Delete), where)
                self.assertIsInstance(node.body[-1], ast.Return, where)

    def test_what_exit_does(self):
        for where, node in self.nodes(ast.FunctionDef):
            for row in node.body if node.name == "__exit__" else []:
                self.assertIsInstance(row, ast.Assign, where)
                self.assertIsInstance(row.targets[0], ast.Attribute, where)
                self.assertIsInstance(row.value, (ast.Attribute, ast.Constant), where)

    def test_methods_attributes_and_properties(self):
        methods, properties, stored = {}, set(), {}
        for where, node in self.nodes(ast.ClassDef):
            for part in node.body:
                if isinstance(part, ast.FunctionDef):
                    told = [ast.unparse(sign) for sign in part.decorator_list]
                    methods.setdefault(part.name, set()).add(node.name)
                    properties.update([part.name] if told == ["property"] else [])
            for part in ast.walk(node):
                if isinstance(part, ast.Attribute) and isinstance(part.ctx, ast.Store):
                    stored.setdefault(part.attr, set()).add(node.name)
        for name in stored:
            self.assertNotIn(name, methods)
        for name in properties:
            self.assertEqual(len(methods[name]), sum(
                isinstance(part, ast.FunctionDef) and part.name == name and bool(part.decorator_list)
                for _, node in self.nodes(ast.ClassDef) for part in node.body
            ), name)

    def test_reversed(self):
        for where, node in self.nodes(ast.Call):
            if isinstance(node.func, ast.Name) and node.func.id == "reversed":
                self.assertIsInstance(node.args[0], ast.Call, where)
                self.assertIn(ast.unparse(node.args[0].func), {"list", "tuple", "sorted", "range"}, where)

    def test_generators(self):
        names = [node.name for _, node in self.nodes(ast.FunctionDef)]
        for where, node in self.nodes(ast.FunctionDef):
            parts = list(ast.walk(node))
            if any(isinstance(part, (ast.Yield, ast.YieldFrom)) for part in parts):
                self.assertEqual(names.count(node.name), 1, where)
                self.assertFalse(any(isinstance(part, (ast.Try, ast.With)) for part in parts), where)

    def test_names_that_are_not_used(self):
        for where, node in self.nodes(ast.Name, ast.arg, ast.Attribute, ast.FunctionDef, ast.ClassDef, ast.keyword):
            for field in ("id", "arg", "attr", "name"):
                self.assertNotIn(getattr(node, field, None), NAMES, where)
        for path, text in self.texts.items():
            self.assertEqual(set(re.findall(r"[A-Za-z_]+", text)) & WORDS, set(), path)

    def test_words_that_are_not_used(self):
        for path, text in self.texts.items():
            self.assertIsNone(re.search(r"\(type\)|Meta|metaclass=|dataclass|overload|contextmanager", text), path)


if __name__ == "__main__":
    unittest.main()

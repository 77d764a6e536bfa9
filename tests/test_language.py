"""The files of the package keep to the subset of Python, as far as a short test can see it."""

import ast
import pathlib
import re
import unittest

FOLDER = pathlib.Path(__file__).resolve().parent.parent / "cutshows"
BUILTINS = set(
    "len range enumerate zip min max sum abs sorted reversed int str bool bytes list tuple dict set frozenset "
    "isinstance ord repr any all divmod iter next map Exception ValueError TypeError KeyError IndexError LookupError "
    "ZeroDivisionError ArithmeticError OverflowError RuntimeError NotImplementedError AttributeError "
    "StopIteration NotImplemented super property classmethod staticmethod".split()
)
LIBRARY = {
    "heapq": {"heappush", "heappop", "heapify", "heapreplace", "heappushpop"},
    "math": {"gcd", "lcm", "isqrt", "comb", "perm", "factorial"},
    "itertools": {"product", "combinations", "permutations"},
}
TAKE_LISTS = {"any", "all", "min", "max", "sum", "sorted"}
NOT_USED = (
    ast.Global, ast.AsyncFunctionDef, ast.AsyncFor, ast.AsyncWith, ast.Await, ast.Import, ast.Div,
)


def names_of(tree):
    """All names that a file binds anywhere."""
    found = set()
    for node in ast.walk(tree):
        if isinstance(node, (ast.FunctionDef, ast.ClassDef)):
            found.add(node.name)
        elif isinstance(node, ast.arg):
            found.add(node.arg)
        elif isinstance(node, ast.alias):
            found.add(node.asname or node.name)
        elif isinstance(node, ast.Name) and not isinstance(node.ctx, ast.Load):
            found.add(node.id)
    return found


class Language(unittest.TestCase):
    def setUp(self):
        self.texts = {path: path.read_text("ascii") for path in sorted(FOLDER.rglob("*.py"))}
        self.trees = {path: ast.parse(text) for path, text in self.texts.items()}
        self.assertTrue(self.texts)

    def nodes(self, *kinds):
        for path, tree in self.trees.items():
            for node in ast.walk(tree):
                if isinstance(node, kinds):
                    yield f"{path.name}:{getattr(node, 'lineno', '')}", node

    def test_only_python_files(self):
        for path in FOLDER.rglob("*"):
            if path.name != "__pycache__" and path.parent.name != "__pycache__":
                self.assertRegex(path.name, r"^[a-z0-9_]+\.py$")

    def test_lines_and_files(self):
        for path, text in self.texts.items():
            lines = text.split("\n")
            self.assertLessEqual(len(lines), 400, path)
            for line in lines:
                self.assertLessEqual(len(line), 120, path)
                self.assertRegex(line, r"^[ -~]*$", path)

    def test_functions_are_short(self):
        for where, node in self.nodes(ast.FunctionDef):
            self.assertLessEqual(node.end_lineno - node.lineno + 1, 40, where)

    def test_imports(self):
        for where, node in self.nodes(ast.ImportFrom):
            names = {alias.name for alias in node.names}
            self.assertEqual(node.level, 0, where)
            if node.module in LIBRARY:
                self.assertLessEqual(names, LIBRARY[node.module], where)
            else:
                self.assertRegex(node.module, r"^cutshows\.", where)
            self.assertNotIn("*", names, where)

    def test_statements_and_signs(self):
        for where, node in self.nodes(*NOT_USED):
            self.fail(f"{where}: {node.__class__.__name__}")

    def test_builtins(self):
        import builtins
        known = set(dir(builtins))
        for path, tree in self.trees.items():
            bound = names_of(tree)
            self.assertEqual(bound & known, set(), path)
            for node in ast.walk(tree):
                if isinstance(node, ast.Name) and node.id in known:
                    self.assertIn(node.id, BUILTINS, f"{path.name}:{node.lineno}")

    def test_decorators(self):
        allowed = {"property", "classmethod", "staticmethod"}
        for where, node in self.nodes(ast.FunctionDef, ast.ClassDef):
            for sign in node.decorator_list:
                if not (isinstance(sign, ast.Attribute) and sign.attr == "setter"):
                    self.assertIn(ast.unparse(sign), allowed, where)

    def test_lists_instead_of_generator_expressions(self):
        for where, node in self.nodes(ast.Call):
            if isinstance(node.func, ast.Name) and node.func.id in TAKE_LISTS:
                self.assertFalse(any(isinstance(told, ast.GeneratorExp) for told in node.args), where)

    def test_literals(self):
        for where, node in self.nodes(ast.Constant):
            self.assertNotIsInstance(node.value, (float, complex), where)
            if isinstance(node.value, str):
                self.assertNotIn(chr(37), node.value, where)

    def test_handlers_name_their_errors(self):
        for where, node in self.nodes(ast.ExceptHandler):
            self.assertIsNotNone(node.type, where)

    def test_objects_with_an_index_are_not_iterated_over(self):
        for where, node in self.nodes(ast.ClassDef):
            methods = {part.name for part in node.body if isinstance(part, ast.FunctionDef)}
            if "__getitem__" in methods:
                self.assertIn("__iter__", methods, where)

    def test_words_that_are_not_used(self):
        for path, text in self.texts.items():
            self.assertIsNone(re.search(r"\(type\)|Meta|metaclass=|dataclass|overload|contextmanager", text), path)


if __name__ == "__main__":
    unittest.main()

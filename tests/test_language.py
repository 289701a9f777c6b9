"""The rules of the Python subset that can be seen in one file at a time.

Not all of them: where a rule asks for judgement, reading the code is needed.
"""

import ast
import builtins
import re
import unittest
from pathlib import Path

PACKAGE = Path(__file__).resolve().parent.parent / "quietstreets"

# L8, and the error classes there.
ALLOWED_BUILTINS = set(
    "len range enumerate zip min max sum abs sorted reversed int str bool bytes list tuple dict set frozenset"
    " isinstance ord repr any all divmod pow getattr hasattr setattr iter next property staticmethod classmethod super"
    " type NotImplemented Exception ValueError TypeError KeyError IndexError LookupError ZeroDivisionError"
    " ArithmeticError OverflowError RuntimeError NotImplementedError AttributeError StopIteration".split()
)
# L2: from where which names may be imported, beside the package itself.
ALLOWED_IMPORTS = {
    "__future__": {"annotations"},
    "heapq": {"heappush", "heappop", "heapify", "heapreplace", "heappushpop"},
    "math": {"gcd", "lcm", "isqrt", "comb", "perm", "factorial"},
    "itertools": {
        "product", "combinations", "permutations", "chain", "accumulate", "pairwise", "islice", "zip_longest",
    },
    "collections": {"defaultdict", "deque"},
}
# L6 and L7.
BARRED_NODES = (
    ast.Global, ast.AsyncFunctionDef, ast.Await, ast.Import, ast.TryStar, ast.AsyncFor, ast.AsyncWith, ast.Div,
)
# L5.
ALLOWED_DOUBLE_UNDERSCORES = {"__init__", "__eq__", "__repr__", "__str__", "__len__"}
# L25, those that are in use.
ALLOWED_METHODS = set(
    "append clear copy count endswith extend find get index insert isalnum isalpha isdigit items join keys lower"
    " partition pop remove replace reverse rpartition setdefault split startswith strip update upper values isascii".split()
)
# L17.
BARRED_WORDS = re.compile(
    r"\b(typing|typing_extensions|enum|Enum|namedtuple|NamedTuple|abstractmethod|Generic|Protocol|ABC)\b"
    r"|dataclass|overload|contextmanager|_wall"
)


def files():
    """The files of the package."""
    return sorted(path for path in PACKAGE.rglob("*") if path.is_file() and "__pycache__" not in path.parts)


def tree(path):
    """The parsed file."""
    return ast.parse(path.read_text(encoding="utf-8"))


def assigned_names(node):
    """The names that are bound somewhere in a parsed file, those of attributes and methods left aside."""
    names = []
    for part in ast.walk(node):
        if isinstance(part, ast.Name) and not isinstance(part.ctx, ast.Load):
            names.append(part.id)
        elif isinstance(part, ast.arg):
            names.append(part.arg)
        elif isinstance(part, (ast.FunctionDef, ast.ClassDef)):
            names.append(part.name)
        elif isinstance(part, ast.ExceptHandler) and part.name:
            names.append(part.name)
        elif isinstance(part, ast.alias):
            names.append(part.asname or part.name)
    return names


class Language(unittest.TestCase):
    def test_files(self):
        self.assertTrue((PACKAGE / "__init__.py").is_file())
        for path in files():
            self.assertRegex(path.name, r"^[a-z_][a-z0-9_]*\.py$")
        self.assertLessEqual(len(files()), 100)

    def test_characters_and_sizes(self):
        for path in files():
            text = path.read_text(encoding="utf-8")
            self.assertEqual([sign for sign in text if not (" " <= sign <= "~" or sign == "\n")], [], path)
            lines = text.split("\n")
            self.assertLessEqual(len(lines), 399, path)
            self.assertLessEqual(max(map(len, lines)), 120, path)

    def test_functions_have_at_most_40_lines(self):
        for path in files():
            for node in ast.walk(tree(path)):
                if isinstance(node, ast.FunctionDef):
                    self.assertLessEqual(node.end_lineno - node.lineno + 1, 40, f"{path} {node.name}")

    def test_imports(self):
        defined = {}
        for path in files():
            body = tree(path).body
            defined[f"quietstreets.{path.stem}"] = {
                part.name for part in body if isinstance(part, (ast.FunctionDef, ast.ClassDef))
            } | {part.targets[0].id for part in body if isinstance(part, ast.Assign)}
        for path in files():
            for node in ast.walk(tree(path)):
                if isinstance(node, ast.ImportFrom):
                    self.assertEqual(node.level, 0, path)
                    allowed = ALLOWED_IMPORTS.get(node.module) or defined[node.module]
                    for name in node.names:
                        self.assertIn(name.name, allowed, path)

    def test_no_two_files_import_each_other(self):
        imports = {
            f"quietstreets.{path.stem}": {node.module for node in ast.walk(tree(path)) if isinstance(node, ast.ImportFrom)}
            for path in files()
        }
        while imports:
            free = [name for name, others in imports.items() if not others & set(imports)]
            self.assertNotEqual(free, [], f"imported in a circle: {sorted(imports)}")
            for name in free:
                del imports[name]

    def test_module_level(self):
        kinds = (ast.ImportFrom, ast.FunctionDef, ast.ClassDef, ast.Assign)
        for path in files():
            for at, part in enumerate(tree(path).body):
                if at == 0 and isinstance(part, ast.Expr):
                    self.assertIsInstance(part.value.value, str)
                elif path.name != "__main__.py":
                    self.assertIsInstance(part, kinds, path)

    def test_statements(self):
        for path in files():
            for node in ast.walk(tree(path)):
                self.assertNotIsInstance(node, BARRED_NODES, path)
                if isinstance(node, ast.Constant):
                    self.assertNotIsInstance(node.value, (float, complex), path)

    def test_no_generator_expressions(self):
        # They would be barred from any, all, sum and the like by a class with __eq__, which a desk is.
        for path in files():
            for node in ast.walk(tree(path)):
                self.assertNotIsInstance(node, ast.GeneratorExp, path)

    def test_builtins(self):
        for path in files():
            if path.name == "__main__.py":
                continue
            own = set(assigned_names(tree(path)))
            for node in ast.walk(tree(path)):
                if isinstance(node, ast.Name) and isinstance(node.ctx, ast.Load) and node.id not in own:
                    self.assertIn(node.id, ALLOWED_BUILTINS, path)

    def test_no_name_of_a_builtin_has_another_meaning(self):
        for path in files():
            methods = {
                part.name
                for node in ast.walk(tree(path)) if isinstance(node, ast.ClassDef)
                for part in node.body if isinstance(part, ast.FunctionDef)
            }
            for name in assigned_names(tree(path)):
                if name not in methods:
                    self.assertFalse(hasattr(builtins, name), f"{path} {name}")

    def test_names_are_bound_once_and_hide_no_import_or_class(self):
        for path in files():
            top = tree(path).body
            bound = [name for part in top for name in assigned_names_of_statement(part)]
            self.assertEqual(len(bound), len(set(bound)), path)
            hidden = {
                name for part in top if isinstance(part, (ast.ImportFrom, ast.ClassDef))
                for name in assigned_names_of_statement(part)
            }
            for part in top:
                if isinstance(part, ast.FunctionDef):
                    inner = [name for inside in part.body + [part.args] for name in assigned_names(inside)]
                    self.assertEqual(hidden & set(inner), set(), f"{path} {part.name}")

    def test_classes(self):
        for path in files():
            for node in ast.walk(tree(path)):
                if isinstance(node, ast.ClassDef):
                    methods = [part.name for part in node.body if isinstance(part, ast.FunctionDef)]
                    self.assertEqual(len(methods), len(set(methods)), f"{path} {node.name}")
                    for name in methods:
                        if name.startswith("__"):
                            self.assertIn(name, ALLOWED_DOUBLE_UNDERSCORES, f"{path} {node.name}")
                if isinstance(node, (ast.ClassDef, ast.FunctionDef)):
                    self.assertEqual(node.decorator_list, [], f"{path} {node.name}")

    def test_methods_that_are_called(self):
        own = {
            part.name for path in files() for node in ast.walk(tree(path)) if isinstance(node, ast.ClassDef)
            for part in node.body if isinstance(part, ast.FunctionDef)
        }
        for path in files():
            for node in ast.walk(tree(path)):
                if isinstance(node, ast.Call) and isinstance(node.func, ast.Attribute):
                    self.assertIn(node.func.attr, ALLOWED_METHODS | own, f"{path} {node.lineno}")

    def test_words(self):
        for path in files():
            self.assertIsNone(BARRED_WORDS.search(path.read_text(encoding="utf-8")), path)


def assigned_names_of_statement(part):
    """The names that one statement at module level binds there."""
    if isinstance(part, ast.ImportFrom):
        return [name.asname or name.name for name in part.names]
    if isinstance(part, (ast.FunctionDef, ast.ClassDef)):
        return [part.name]
    if isinstance(part, ast.Assign):
        return [target.id for target in part.targets]
    return []

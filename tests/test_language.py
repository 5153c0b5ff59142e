"""Those rules of LANGUAGE.md that a short look at each file of the package can check."""

import ast
import builtins
import pathlib
import re
import unittest

PACKAGE = pathlib.Path(__file__).resolve().parent.parent / "loafshares"
FILES = sorted(PACKAGE.glob("*.py"))
BUILTINS = set("""len range enumerate zip min max sum abs sorted reversed int str bool bytes list tuple dict set
    frozenset isinstance ord repr any all divmod Exception ValueError TypeError KeyError IndexError LookupError
    ZeroDivisionError ArithmeticError OverflowError RuntimeError NotImplementedError AttributeError StopIteration
    NotImplemented iter next super property staticmethod classmethod""".split())
BARRED_WORDS = """type typing typing_extensions enum Enum IntEnum StrEnum Flag IntFlag Generic Protocol ABC ABCMeta
    namedtuple NamedTuple TypedDict TYPE_CHECKING abstractmethod""".split()
BARRED_PARTS = ["dataclass", "overload", "contextmanager"]
BARRED_NODES = (
    ast.Global, ast.AsyncFunctionDef, ast.AsyncFor, ast.AsyncWith, ast.Await, ast.Div, ast.MatMult, ast.Import,
)
METHODS = set("""append clear copy count endswith extend find get index insert isalnum isalpha isdigit islower isspace
    isupper items join keys ljust lower lstrip partition pop remove replace reverse rfind rjust rpartition rsplit rstrip
    setdefault split splitlines startswith strip update upper values zfill bit_length add discard
    removeprefix removesuffix""".split())
DOUBLE = set("__init__ __eq__ __repr__ __str__ __len__ __enter__ __exit__ __call__ __iter__".split())


def trees():
    return [(path.name, ast.parse(path.read_text())) for path in FILES]


def source_of(module):
    """The tree of a module that is imported by its full name."""
    return ast.parse((PACKAGE / (module.partition(".")[2] + ".py")).read_text())


def bound_in(function):
    """The parameters and the names that are assigned in a function."""
    found = [node.arg for node in ast.walk(function) if isinstance(node, ast.arg)]
    return found + [node.id for node in ast.walk(function)
                    if isinstance(node, ast.Name) and isinstance(node.ctx, ast.Store)]


def own_methods():
    return {row.name for _, node in nodes(ast.ClassDef) for row in node.body if isinstance(row, ast.FunctionDef)}


def stored_attributes():
    return {node.attr for _, node in nodes(ast.Attribute) if isinstance(node.ctx, ast.Store)}


def nodes(*kinds):
    return [(name, node) for name, tree in trees() for node in ast.walk(tree) if isinstance(node, kinds)]


class TestFiles(unittest.TestCase):
    def test_nothing_but_files_of_the_program(self):
        others = [path.name for path in PACKAGE.iterdir() if path not in FILES and path.name != "__pycache__"]
        self.assertEqual(others, [])
        self.assertIn("__init__.py", [path.name for path in FILES])

    def test_signs_and_sizes(self):
        for path in FILES:
            lines = path.read_text(encoding="utf-8").split("\n")
            self.assertLessEqual(len(lines), 400, path.name)
            for at, line in enumerate(lines, start=1):
                self.assertRegex(line, r"\A[ -~]{0,120}\Z", f"{path.name}:{at}")

    def test_functions_of_at_most_40_lines(self):
        for name, node in nodes(ast.FunctionDef):
            self.assertLessEqual(node.end_lineno - node.lineno + 1, 40, f"{name}:{node.name}")

    def test_barred_words(self):
        for path in FILES:
            text = path.read_text()
            for word in BARRED_WORDS:
                self.assertIsNone(re.search(rf"\b{word}\b", text), f"{path.name}: {word}")
            for part in BARRED_PARTS:
                self.assertNotIn(part, text, path.name)


class TestRows(unittest.TestCase):
    def test_barred_kinds_of_rows(self):
        self.assertEqual([(name, node.lineno) for name, node in nodes(*BARRED_NODES)], [])

    def test_imports_from_the_package_alone(self):
        for name, node in nodes(ast.ImportFrom):
            self.assertEqual(node.level, 0, name)
            self.assertRegex(node.module, r"\Aloafshares\.[a-z_]+\Z", name)
            source = source_of(node.module)
            defined = [row.name for row in source.body if isinstance(row, (ast.FunctionDef, ast.ClassDef))]
            defined += [row.targets[0].id for row in source.body if isinstance(row, ast.Assign)]
            for alias in node.names:
                self.assertIn(alias.name, defined, name)

    def test_no_two_files_import_from_each_other(self):
        waiting = {}
        for path in FILES:
            tree = ast.parse(path.read_text())
            needed = {node.module for node in ast.walk(tree) if isinstance(node, ast.ImportFrom)}
            waiting["loafshares." + path.stem] = needed
        while waiting:
            free = [name for name, needed in waiting.items() if not needed & set(waiting)]
            self.assertNotEqual(free, [], sorted(waiting))
            waiting = {name: needed for name, needed in waiting.items() if name not in free}

    def test_no_generators(self):
        found = nodes(ast.GeneratorExp, ast.Yield, ast.YieldFrom)
        self.assertEqual([(name, node.lineno) for name, node in found], [])

    def test_errors_are_made_where_they_are_raised(self):
        for name, node in nodes(ast.Raise):
            self.assertIsInstance(node.exc, ast.Call, f"{name}:{node.lineno}")
            self.assertIsInstance(node.exc.func, ast.Name, f"{name}:{node.lineno}")

    def test_plain_arguments_beside_a_star(self):
        for name, node in nodes(ast.Call):
            stars = [given for given in node.args if isinstance(given, ast.Starred)]
            doubles = [given for given in node.keywords if given.arg is None]
            given = [one.value if isinstance(one, (ast.Starred, ast.keyword)) else one for one in [*node.args, *node.keywords]]
            for one in given if stars or doubles else []:
                self.assertIsInstance(one, (ast.Name, ast.Constant), f"{name}:{node.lineno}")
            if doubles:
                self.assertEqual(len(node.keywords), 1, f"{name}:{node.lineno}")

    def test_no_error_of_pythons_own_is_caught(self):
        for name, node in nodes(ast.ExceptHandler):
            self.assertIn(node.type.id, ["KeyError", "ZeroDivisionError", "LoafError"], f"{name}:{node.lineno}")

    def test_no_numbers_with_a_point(self):
        for name, node in nodes(ast.Constant):
            self.assertNotIsInstance(node.value, (float, complex), f"{name}:{node.lineno}")

    def test_is_with_none_true_and_false_alone(self):
        for name, node in nodes(ast.Compare):
            for sign, right in zip(node.ops, node.comparators):
                if isinstance(sign, (ast.Is, ast.IsNot)):
                    plain = isinstance(right, ast.Constant) and right.value in (None, True, False)
                    self.assertTrue(plain, f"{name}:{node.lineno}")

    def test_no_percent_sign_in_a_text(self):
        for name, node in nodes(ast.Constant):
            if isinstance(node.value, str):
                self.assertNotIn("%", node.value, f"{name}:{node.lineno}")


class TestNames(unittest.TestCase):
    def test_builtins(self):
        for name, node in nodes(ast.Name):
            if hasattr(builtins, node.id):
                self.assertIsInstance(node.ctx, ast.Load, f"{name}:{node.lineno}")
                self.assertIn(node.id, BUILTINS, f"{name}:{node.lineno}")
        for name, node in nodes(ast.arg):
            self.assertFalse(hasattr(builtins, node.arg), f"{name}:{node.lineno}")

    def test_plain_names(self):
        found = [(name, node.id) for name, node in nodes(ast.Name)]
        found += [(name, node.arg) for name, node in nodes(ast.arg)]
        found += [(name, node.attr) for name, node in nodes(ast.Attribute)]
        found += [(name, node.name) for name, node in nodes(ast.FunctionDef, ast.ClassDef)]
        for file, name in found:
            if name not in DOUBLE:
                self.assertRegex(name, r"\A[A-Za-z][A-Za-z0-9_]*\Z", file)

    def test_no_name_is_a_method_and_an_attribute(self):
        self.assertEqual(own_methods() & stored_attributes(), set())

    def test_methods_and_attributes_that_there_are(self):
        called = [(name, node.func) for name, node in nodes(ast.Call) if isinstance(node.func, ast.Attribute)]
        for name, node in called:
            self.assertIn(node.attr, METHODS | own_methods() | {"__init__"}, f"{name}:{node.lineno}")
        read = {node.attr for _, node in nodes(ast.Attribute) if isinstance(node.ctx, ast.Load)}
        self.assertEqual(read - {node.attr for _, node in called} - stored_attributes(), set())

    def test_no_name_in_a_function_is_that_of_a_class_or_an_import_of_its_file(self):
        for name, tree in trees():
            taken = {row.name for row in tree.body if isinstance(row, ast.ClassDef)}
            for row in tree.body:
                if isinstance(row, ast.ImportFrom):
                    taken |= {alias.asname or alias.name for alias in row.names}
            for node in ast.walk(tree):
                if isinstance(node, ast.FunctionDef):
                    self.assertEqual(taken & set(bound_in(node)), set(), f"{name}:{node.name}")


if __name__ == "__main__":
    unittest.main()

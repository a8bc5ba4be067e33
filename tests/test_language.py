"""Looks at the package's own files: the rules of its small language that a look at the text can tell."""

import ast
import builtins
import pathlib
import re
import unittest

PACKAGE = pathlib.Path(__file__).resolve().parent.parent / "manyclocks"
BUILTINS = set(
    "len range enumerate zip min max sum abs sorted reversed int str bool bytes list tuple dict set frozenset"
    " isinstance ord repr any all divmod Exception ValueError TypeError KeyError IndexError LookupError"
    " ZeroDivisionError ArithmeticError OverflowError RuntimeError NotImplementedError AttributeError StopIteration"
    " NotImplemented".split()
)
METHODS = set(
    "append clear copy count endswith extend find get index insert isalnum isalpha isdigit islower isspace isupper"
    " items join keys ljust lower lstrip partition pop remove replace reverse rfind rjust rpartition rsplit rstrip"
    " setdefault split splitlines startswith strip update upper values zfill bit_length removesuffix __init__".split()
)
NO_WORDS = set(
    "type typing typing_extensions enum Enum IntEnum StrEnum Flag IntFlag Generic Protocol ABC ABCMeta namedtuple"
    " NamedTuple TypedDict TYPE_CHECKING abstractmethod".split()
)
NO_NAMES = set(
    "register mro elements open input version_info with_traceback add_note attrgetter breakpoint builtins compile"
    " copyright credits delattr dir eval exec exit gc getattr globals hasattr help id importlib license locals"
    " methodcaller os quit setattr super type vars sys format format_map print chr".split()
)
NO_NODES = (
    ast.Global, ast.AsyncFunctionDef, ast.AsyncFor, ast.AsyncWith, ast.Await, ast.Import, ast.Div,
)
ITERATED = ("zip", "enumerate", "reversed", "range")


def files():
    return sorted(PACKAGE.iterdir())


def trees():
    return [(path.name, ast.parse(path.read_text())) for path in files() if path.suffix == ".py"]


def bound_names(tree):
    """All names that a file gives: functions, classes, parameters, variables, caught errors."""
    told = []
    for node in ast.walk(tree):
        if isinstance(node, (ast.FunctionDef, ast.ClassDef)):
            told.append(node.name)
        elif isinstance(node, ast.arg):
            told.append(node.arg)
        elif isinstance(node, ast.Name) and isinstance(node.ctx, ast.Store):
            told.append(node.id)
        elif isinstance(node, ast.ExceptHandler) and node.name:
            told.append(node.name)
    return told


def imported(tree):
    return [(node.module, alias.name) for node in tree.body if isinstance(node, ast.ImportFrom) for alias in node.names]


def own_methods(tree):
    classes = [node for node in tree.body if isinstance(node, ast.ClassDef)]
    return [row for node in classes for row in node.body if isinstance(row, ast.FunctionDef)]


def top_names(tree):
    told = []
    for node in tree.body:
        if isinstance(node, (ast.FunctionDef, ast.ClassDef)):
            told.append(node.name)
        elif isinstance(node, ast.Assign):
            told.extend(target.id for target in node.targets)
        elif isinstance(node, ast.ImportFrom):
            told.extend(alias.asname or alias.name for alias in node.names)
    return told


class Files(unittest.TestCase):
    def test_plain_files_alone(self):
        for path in files():
            if path.name != "__pycache__":
                self.assertRegex(path.name, r"^([a-z][a-z0-9_]*|__init__)\.py$")
                self.assertNotIn(path.stem, vars(builtins))

    def test_size_and_characters(self):
        for path in files():
            if path.suffix != ".py":
                continue
            lines = path.read_text().split("\n")
            self.assertLessEqual(len(lines), 400, path.name)
            for number, row in enumerate(lines, start=1):
                self.assertRegex(row, r"^[ -~]{0,120}$", f"{path.name}:{number}")

    def test_words_that_stand_nowhere(self):
        for path in files():
            if path.suffix == ".py":
                text = path.read_text()
                self.assertEqual(set(re.findall(r"\w+", text)) & NO_WORDS, set(), path.name)
                self.assertIsNone(re.search(r"dataclass|overload|contextmanager", text), path.name)

    def test_functions_of_at_most_40_lines(self):
        for name, tree in trees():
            for node in ast.walk(tree):
                if isinstance(node, ast.FunctionDef):
                    self.assertLessEqual(node.end_lineno - node.lineno + 1, 40, f"{name}: {node.name}")


class Imports(unittest.TestCase):
    def test_from_the_file_that_defines_the_name(self):
        known = dict(trees())
        for name, tree in trees():
            for module, what in imported(tree):
                self.assertRegex(module, r"^manyclocks\.[a-z_]+$", name)
                target = known[module.split(".")[1] + ".py"]
                defined = set(top_names(target)) - {row[1] for row in imported(target)}
                self.assertIn(what, defined, f"{name}: {module}")

    def test_imports_stand_on_top_and_are_used(self):
        for name, tree in trees():
            inner = [node for node in ast.walk(tree) if isinstance(node, (ast.Import, ast.ImportFrom))]
            self.assertEqual(len(inner), len([node for node in tree.body if isinstance(node, ast.ImportFrom)]), name)
            used = {node.id for node in ast.walk(tree) if isinstance(node, ast.Name)}
            self.assertEqual({what for module, what in imported(tree)} - used, set(), name)

    def test_no_two_files_import_each_other(self):
        needs = {name[:-3]: {module.split(".")[1] for module, what in imported(tree)} for name, tree in trees()}
        while needs:
            free = [name for name in needs if not needs[name] & set(needs)]
            self.assertTrue(free, needs)
            for name in free:
                del needs[name]


class Names(unittest.TestCase):
    def test_plain_names_that_mean_nothing_else(self):
        for name, tree in trees():
            for bound in bound_names(tree):
                if bound in ("__init__",):
                    continue
                self.assertRegex(bound, r"^[A-Za-z][A-Za-z0-9_]*$", name)
                self.assertNotIn(bound, vars(builtins), name)
                self.assertNotIn(bound, NO_NAMES, name)

    def test_bound_once_on_top(self):
        for name, tree in trees():
            tops = top_names(tree)
            self.assertEqual(len(tops), len(set(tops)), name)

    def test_no_local_name_hides_an_import_or_a_class(self):
        for name, tree in trees():
            outer = {what for module, what in imported(tree)}
            outer |= {node.name for node in tree.body if isinstance(node, ast.ClassDef)}
            inner = []
            for node in ast.walk(tree):
                if isinstance(node, ast.arg):
                    inner.append(node.arg)
                elif isinstance(node, ast.Name) and isinstance(node.ctx, ast.Store):
                    inner.append(node.id)
            self.assertEqual(outer & set(inner), set(), name)

    def test_builtins_and_methods_that_are_allowed(self):
        methods = {row.name for name, tree in trees() for row in own_methods(tree)}
        for name, tree in trees():
            own = set(bound_names(tree)) | {what for module, what in imported(tree)}
            for node in ast.walk(tree):
                if isinstance(node, ast.Name) and node.id not in own:
                    self.assertIn(node.id, BUILTINS, f"{name}:{node.lineno}")
                if isinstance(node, ast.Call) and isinstance(node.func, ast.Attribute):
                    self.assertIn(node.func.attr, METHODS | methods, f"{name}:{node.lineno}")

    def test_no_method_is_an_attribute_elsewhere(self):
        methods, attributes = set(), set()
        for name, tree in trees():
            methods |= {row.name for row in own_methods(tree)}
            for node in ast.walk(tree):
                if isinstance(node, ast.Attribute) and isinstance(node.ctx, ast.Store):
                    attributes.add(node.attr)
        self.assertEqual(methods & attributes, set())


class Forms(unittest.TestCase):
    def test_no_barred_statements_signs_and_numbers(self):
        for name, tree in trees():
            for node in ast.walk(tree):
                where = f"{name}:{getattr(node, 'lineno', 0)}"
                self.assertNotIsInstance(node, NO_NODES, where)
                if isinstance(node, ast.Constant):
                    self.assertNotIsInstance(node.value, (float, complex), where)
                    self.assertFalse(isinstance(node.value, str) and "%" in node.value, where)

    def test_is_with_none_true_and_false_alone(self):
        for name, tree in trees():
            for node in ast.walk(tree):
                if isinstance(node, ast.Compare):
                    for sign, side in zip(node.ops, node.comparators):
                        if isinstance(sign, (ast.Is, ast.IsNot)):
                            self.assertIsInstance(side, ast.Constant, f"{name}:{node.lineno}")
                            self.assertIn(side.value, (None, True, False))

    def test_what_is_iterated_at_once_is_not_stored(self):
        for name, tree in trees():
            for node in ast.walk(tree):
                value = getattr(node, "value", None)
                if isinstance(node, (ast.Assign, ast.Return)) and isinstance(value, ast.Call):
                    called = value.func
                    word = called.id if isinstance(called, ast.Name) else called.attr
                    self.assertNotIn(word, ITERATED + ("items", "keys", "values"), f"{name}:{node.lineno}")

    def test_module_level_is_plain(self):
        for name, tree in trees():
            for number, node in enumerate(tree.body):
                kinds = (ast.ImportFrom, ast.FunctionDef, ast.ClassDef, ast.Assign)
                if number == 0:
                    self.assertIsInstance(ast.get_docstring(tree), str, name)
                else:
                    self.assertIsInstance(node, kinds, f"{name}:{node.lineno}")
                if isinstance(node, ast.Assign):
                    ast.literal_eval(node.value)

    def test_raise_makes_its_error_on_the_spot(self):
        for name, tree in trees():
            for node in ast.walk(tree):
                if isinstance(node, ast.Raise) and node.exc is not None:
                    self.assertIsInstance(node.exc, ast.Call, f"{name}:{node.lineno}")


if __name__ == "__main__":
    unittest.main()

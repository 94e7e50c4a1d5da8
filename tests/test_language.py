"""What can be told of the package's files without running them, as its subset of Python asks."""

import ast
import builtins
import pathlib
import re
import unittest

from onestillview import errors

FOLDER = pathlib.Path(errors.__file__).parent
LIBRARY = ("heapq", "math", "itertools", "collections")
BUILTINS = (
    "len range enumerate zip min max sum abs sorted reversed int str bool bytes list tuple dict set frozenset "
    "isinstance ord repr any all divmod pow getattr hasattr setattr iter next map type super property staticmethod "
    "classmethod Exception ValueError TypeError KeyError IndexError LookupError ZeroDivisionError ArithmeticError "
    "OverflowError RuntimeError NotImplementedError AttributeError StopIteration NotImplemented"
).split(" ")
AT_THE_TOP = (ast.ImportFrom, ast.FunctionDef, ast.ClassDef, ast.Assign, ast.Expr)
# No attribute of an object of the package has one of these names.
BARRED_ATTRIBUTES = (
    "items keys values pop update append clear extend insert remove reverse setdefault sort args encode decode hex "
    "fromhex format format_map mro"
).split(" ")

# No name of the package is one of these, and no file has one of the words but in comments and docstrings.
BARRED_NAMES = (
    "register mro elements open input law version_info with_traceback add_note attrgetter breakpoint builtins compile "
    "copyright credits delattr dir eval exec exit gc globals help id importlib license locals methodcaller os quit "
    "setattr super vars sys iter next map"
).split(" ")
BARRED_WORDS = (
    "type typing typing_extensions enum Enum IntEnum StrEnum Flag IntFlag Generic Protocol ABC ABCMeta namedtuple "
    "NamedTuple TypedDict TYPE_CHECKING abstractmethod dataclass overload contextmanager"
).split(" ")


def bound_in(tree):
    """All names that a file gives a meaning."""
    for part in ast.walk(tree):
        if isinstance(part, (ast.FunctionDef, ast.ClassDef)):
            yield part.name
        elif isinstance(part, ast.arg):
            yield part.arg
        elif isinstance(part, ast.alias):
            yield part.asname or part.name
        elif isinstance(part, ast.Name) and not isinstance(part.ctx, ast.Load):
            yield part.id


def bound_at_the_top(tree):
    """The names that a file binds outside of all functions and classes."""
    for part in tree.body:
        if isinstance(part, (ast.FunctionDef, ast.ClassDef)):
            yield part.name
        elif isinstance(part, ast.ImportFrom):
            yield from (alias.name for alias in part.names)
        elif isinstance(part, ast.Assign):
            yield from (target.id for target in part.targets)


class LanguageTest(unittest.TestCase):
    def setUp(self):
        self.texts = {path.name: path.read_text(encoding="utf-8") for path in sorted(FOLDER.glob("*.py"))}
        self.trees = {name: ast.parse(text) for name, text in self.texts.items()}

    def parts(self, *kinds):
        """All parts of these kinds, each with its file's name and line."""
        for name, tree in self.trees.items():
            for part in ast.walk(tree):
                if isinstance(part, kinds):
                    yield part, f"{name}:{part.lineno}"

    def test_the_folder_has_python_files_alone(self):
        for path in FOLDER.rglob("*"):
            if "__pycache__" not in path.parts:
                self.assertTrue(path.is_dir() or path.suffix == ".py", path)

    def test_sizes(self):
        for name, text in self.texts.items():
            lines = text.split("\n")
            self.assertLessEqual(len(lines) - 1, 399, name)
            for number, line in enumerate(lines, 1):
                self.assertLessEqual(len(line), 120, f"{name}:{number}")
        for part, place in self.parts(ast.FunctionDef):
            self.assertLessEqual(part.end_lineno - part.lineno + 1, 40, place)

    def test_characters(self):
        for name, text in self.texts.items():
            self.assertEqual({sign for sign in text if sign != "\n" and not " " <= sign <= "~"}, set(), name)

    def test_files_hold_nothing_but_definitions(self):
        for name, tree in self.trees.items():
            for part in tree.body:
                self.assertIsInstance(part, AT_THE_TOP, f"{name}:{part.lineno}")
                if isinstance(part, ast.Expr):
                    self.assertIsInstance(part.value, ast.Constant, f"{name}:{part.lineno}")
                if isinstance(part, ast.Assign):
                    calls = [inner for inner in ast.walk(part) if isinstance(inner, ast.Call)]
                    self.assertEqual((len(part.targets), calls), (1, []), f"{name}:{part.lineno}")

    def test_imports(self):
        for name, tree in self.trees.items():
            for part in ast.walk(tree):
                self.assertNotIsInstance(part, ast.Import, name)
                if isinstance(part, ast.ImportFrom):
                    self.assertIn(part.module.split(".")[0], ("onestillview",) + LIBRARY, name)
                    self.assertEqual(part.level, 0)
                    self.assertNotIn("*", [alias.name for alias in part.names])

    def test_no_name_of_a_builtin_is_given_another_meaning(self):
        for name, tree in self.trees.items():
            for bound in bound_in(tree):
                self.assertFalse(hasattr(builtins, bound) and not bound.startswith("__"), f"{name}: {bound}")

    def test_no_name_of_an_import_or_a_class_is_given_another_meaning(self):
        for name, tree in self.trees.items():
            taken = {part.name for part in ast.walk(tree) if isinstance(part, ast.ClassDef)}
            for part in ast.walk(tree):
                if isinstance(part, ast.ImportFrom):
                    taken.update(alias.name for alias in part.names)
            bound = [part.arg for part in ast.walk(tree) if isinstance(part, ast.arg)] + [
                part.id for part in ast.walk(tree) if isinstance(part, ast.Name) and isinstance(part.ctx, ast.Store)
            ]
            self.assertEqual(taken & set(bound), set(), name)

    def test_imports_name_the_file_that_defines_the_name_and_are_used(self):
        for name, tree in self.trees.items():
            read = {part.id for part in ast.walk(tree) if isinstance(part, ast.Name)}
            for part in ast.walk(tree):
                if isinstance(part, ast.ImportFrom) and part.module.startswith("onestillview."):
                    there = list(bound_at_the_top(self.trees[part.module.split(".")[1] + ".py"]))
                    for alias in part.names:
                        self.assertIn(alias.name, there, name)
                        self.assertIn(alias.name, read, name)

    def test_files_do_not_import_from_each_other(self):
        needed = {
            name: {part.module.split(".")[-1] + ".py" for part in ast.walk(tree) if isinstance(part, ast.ImportFrom)}
            for name, tree in self.trees.items()
        }
        while needed:
            free = [name for name in needed if not needed[name] & set(needed)]
            self.assertNotEqual(free, [], "these import from each other")
            for name in free:
                del needed[name]

    def test_each_name_is_bound_once_at_the_top(self):
        for name, tree in self.trees.items():
            bound = list(bound_at_the_top(tree))
            self.assertEqual(len(bound), len(set(bound)), name)

    def test_attributes_and_methods(self):
        for part, place in self.parts(ast.ClassDef):
            own = {inner.attr for inner in ast.walk(part) if isinstance(inner, ast.Attribute)
                   and isinstance(inner.value, ast.Name) and isinstance(inner.ctx, ast.Store)}
            methods = [inner.name for inner in part.body if isinstance(inner, ast.FunctionDef)]
            self.assertEqual(own & set(methods), set(), place)
            self.assertEqual(own & set(BARRED_ATTRIBUTES), set(), place)
            self.assertEqual(len(methods), len(set(methods)), place)

    def test_is_stands_beside_none_and_bools_alone(self):
        for part, place in self.parts(ast.Compare):
            for sign, right in zip(part.ops, part.comparators):
                if isinstance(sign, (ast.Is, ast.IsNot)):
                    self.assertIsInstance(right, ast.Constant, place)
                    self.assertIn(repr(right.value), ("None", "True", "False"), place)

    def test_no_other_builtin_is_used(self):
        for part, place in self.parts(ast.Name):
            if hasattr(builtins, part.id):
                self.assertIn(part.id, BUILTINS, place)

    def test_what_is_not_in_the_subset(self):
        barred = (ast.AsyncFunctionDef, ast.Await, ast.AsyncFor, ast.AsyncWith, ast.Div, ast.MatMult)
        for part, place in self.parts(ast.stmt, ast.expr):
            self.assertNotIsInstance(part, barred, place)
            if isinstance(part, ast.BinOp):
                self.assertNotIsInstance(part.op, barred, place)
            if isinstance(part, ast.Constant):
                self.assertNotIsInstance(part.value, (float, complex), place)
            if isinstance(part, ast.ClassDef):
                self.assertEqual(part.decorator_list, [], place)

    def test_no_barred_name_is_bound(self):
        for name, tree in self.trees.items():
            self.assertEqual(set(bound_in(tree)) & set(BARRED_NAMES), set(), name)
        for part, place in self.parts(ast.Attribute):
            self.assertNotIn(part.attr, BARRED_NAMES[:9], place)

    def test_no_barred_word_stands_in_strings_or_names(self):
        docstrings = set()
        for name, tree in self.trees.items():
            for part in ast.walk(tree):
                if isinstance(part, (ast.Module, ast.ClassDef, ast.FunctionDef)) and ast.get_docstring(part):
                    docstrings.add(id(part.body[0].value))
            for part in ast.walk(tree):
                words = []
                if isinstance(part, ast.Constant) and isinstance(part.value, str) and id(part) not in docstrings:
                    words = re.findall(r"\w+", part.value)
                elif isinstance(part, ast.Name):
                    words = [part.id]
                elif isinstance(part, ast.Attribute):
                    words = [part.attr]
                self.assertEqual(set(words) & set(BARRED_WORDS), set(), f"{name}: {words}")

    def test_what_stands_behind_a_trial(self):
        """A finally block assigns names and attributes alone, in an if over None at most."""
        simple = (ast.Name, ast.Attribute, ast.Tuple, ast.Load, ast.Store, ast.Assign, ast.If, ast.Compare, ast.Is,
                  ast.IsNot, ast.Constant)
        for part, place in self.parts(ast.Try):
            for statement in part.finalbody:
                for inner in ast.walk(statement):
                    self.assertIsInstance(inner, simple, place)

    def test_builtins_take_lists_instead_of_generators(self):
        for part, place in self.parts(ast.Call):
            for told in part.args:
                self.assertNotIsInstance(told, ast.GeneratorExp, place)


if __name__ == "__main__":
    unittest.main()

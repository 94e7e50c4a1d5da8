"""What can be told of the package's files without running them, as its subset of Python asks."""

import ast
import builtins
import pathlib
import re
import unittest

from onestillview import errors

FOLDER = pathlib.Path(errors.__file__).parent
LIBRARY = ("heapq", "math", "itertools", "collections")
BUILTINS = (
    "len range enumerate zip min max sum abs sorted reversed int str bool bytes list tuple dict set frozenset "
    "isinstance ord repr any all divmod pow getattr hasattr setattr iter next map type super property staticmethod "
    "classmethod Exception ValueError TypeError KeyError IndexError LookupError ZeroDivisionError ArithmeticError "
    "OverflowError RuntimeError NotImplementedError AttributeError StopIteration NotImplemented"
).split(" ")
# These walk what they are first passed.
WALKERS = ("list", "tuple", "dict", "sorted", "sum", "any", "all", "enumerate", "zip", "bytes")
AT_THE_TOP = (ast.ImportFrom, ast.FunctionDef, ast.ClassDef, ast.Assign, ast.Expr)
# No attribute of an object of the package has one of these names.
BARRED_ATTRIBUTES = (
    "items keys values pop update append clear extend insert remove reverse setdefault sort args encode decode hex "
    "fromhex format format_map mro"
).split(" ")

# No name of the package is one of these, and no file has one of the words but in comments and docstrings.
BARRED_NAMES = (
    "register mro elements open input law version_info with_traceback add_note attrgetter breakpoint builtins compile "
    "copyright credits delattr dir eval exec exit gc globals help id importlib license locals methodcaller os quit "
    "setattr super vars sys iter next map"
).split(" ")
BARRED_WORDS = (
    "type typing typing_extensions enum Enum IntEnum StrEnum Flag IntFlag Generic Protocol ABC ABCMeta namedtuple "
    "NamedTuple TypedDict TYPE_CHECKING abstractmethod dataclass overload contextmanager"
).split(" ")


def bound_in(tree):
    """All names that a file gives a meaning."""
    for part in ast.walk(tree):
        if isinstance(part, (ast.FunctionDef, ast.ClassDef)):
            yield part.name
        elif isinstance(part, ast.arg):
            yield part.arg
        elif isinstance(part, ast.alias):
            yield part.asname or part.name
        elif isinstance(part, ast.Name) and not isinstance(part.ctx, ast.Load):
            yield part.id


def bound_at_the_top(tree):
    """The names that a file binds outside of all functions and classes."""
    for part in tree.body:
        if isinstance(part, (ast.FunctionDef, ast.ClassDef)):
            yield part.name
        elif isinstance(part, ast.ImportFrom):
            yield from (alias.name for alias in part.names)
        elif isinstance(part, ast.Assign):
            yield from (target.id for target in part.targets)


def is_call_of(part, names):
    """Whether a part of a file calls one of these builtins by its name."""
    return isinstance(part, ast.Call) and isinstance(part.func, ast.Name) and part.func.id in names


def goes_over(part):
    """The word for what a part of a file goes over one by one, such as range or items, None if it does not."""
    if is_call_of(part, ("range", "zip", "enumerate", "reversed")):
        return part.func.id
    if isinstance(part, ast.Call) and isinstance(part.func, ast.Attribute) and not part.args:
        return part.func.attr if part.func.attr in ("items", "keys", "values") else None
    return None


def is_walked_by_call(call, part):
    """Whether a call walks this part, one of its arguments, on the spot."""
    if not call.args or part is not call.args[0]:
        return False
    word = goes_over(part)
    if is_call_of(call, ("len",)):
        return word in ("range", "items", "keys", "values")
    if is_call_of(call, ("min", "max")):
        return len(call.args) == 1 and all(keyword.arg == "default" for keyword in call.keywords)
    if isinstance(call.func, ast.Attribute):
        return call.func.attr == "join" and isinstance(call.func.value, ast.Constant)
    return is_call_of(call, WALKERS) or is_call_of(call, ("reversed",)) and word == "range"


def is_walked_by(around, part):
    """Whether the part around this one walks it on the spot."""
    if isinstance(around, (ast.For, ast.comprehension)):
        return part is around.iter
    if isinstance(around, ast.Compare):
        # Only what stands behind the last sign is sure not to be compared with anything else.
        return (part is around.comparators[-1] and isinstance(around.ops[-1], (ast.In, ast.NotIn))
                and goes_over(part) in ("range", "keys"))
    return isinstance(around, ast.Call) and is_walked_by_call(around, part)


def not_walked_at_once(tree):
    """The lines of what goes over something one by one, but is handed on or kept instead of walked on the spot."""
    found = []
    for around in ast.walk(tree):
        for part in ast.iter_child_nodes(around):
            # A keyword's value has the keyword around it, which walks nothing.
            if goes_over(part) and not is_walked_by(around, part):
                found.append(part.lineno)
    return sorted(found)


class LanguageTest(unittest.TestCase):
    def setUp(self):
        self.texts = {path.name: path.read_text(encoding="utf-8") for path in sorted(FOLDER.glob("*.py"))}
        self.trees = {name: ast.parse(text) for name, text in self.texts.items()}

    def parts(self, *kinds):
        """All parts of these kinds, each with its file's name and line."""
        for name, tree in self.trees.items():
            for part in ast.walk(tree):
                if isinstance(part, kinds):
                    yield part, f"{name}:{part.lineno}"

    def test_the_folder_has_python_files_alone(self):
        for path in FOLDER.rglob("*"):
            if "__pycache__" not in path.parts:
                self.assertTrue(path.is_dir() or path.suffix == ".py", path)

    def test_sizes(self):
        for name, text in self.texts.items():
            lines = text.split("\n")
            self.assertLessEqual(len(lines) - 1, 399, name)
            for number, line in enumerate(lines, 1):
                self.assertLessEqual(len(line), 120, f"{name}:{number}")
        for part, place in self.parts(ast.FunctionDef):
            self.assertLessEqual(part.end_lineno - part.lineno + 1, 40, place)

    def test_characters(self):
        for name, text in self.texts.items():
            self.assertEqual({sign for sign in text if sign != "\n" and not " " <= sign <= "~"}, set(), name)

    def test_files_hold_nothing_but_definitions(self):
        for name, tree in self.trees.items():
            for part in tree.body:
                self.assertIsInstance(part, AT_THE_TOP, f"{name}:{part.lineno}")
                if isinstance(part, ast.Expr):
                    self.assertIsInstance(part.value, ast.Constant, f"{name}:{part.lineno}")
                if isinstance(part, ast.Assign):
                    calls = [inner for inner in ast.walk(part) if isinstance(inner, ast.Call)]
                    self.assertEqual((len(part.targets), calls), (1, []), f"{name}:{part.lineno}")

    def test_imports(self):
        for name, tree in self.trees.items():
            for part in ast.walk(tree):
                self.assertNotIsInstance(part, ast.Import, name)
                if isinstance(part, ast.ImportFrom):
                    self.assertIn(part.module.split(".")[0], ("onestillview",) + LIBRARY, name)
                    self.assertEqual(part.level, 0)
                    self.assertNotIn("*", [alias.name for alias in part.names])

    def test_no_name_of_a_builtin_is_given_another_meaning(self):
        for name, tree in self.trees.items():
            for bound in bound_in(tree):
                self.assertFalse(hasattr(builtins, bound) and not bound.startswith("__"), f"{name}: {bound}")

    def test_no_name_of_an_import_or_a_class_is_given_another_meaning(self):
        for name, tree in self.trees.items():
            taken = {part.name for part in ast.walk(tree) if isinstance(part, ast.ClassDef)}
            for part in ast.walk(tree):
                if isinstance(part, ast.ImportFrom):
                    taken.update(alias.name for alias in part.names)
            bound = [part.arg for part in ast.walk(tree) if isinstance(part, ast.arg)] + [
                part.id for part in ast.walk(tree) if isinstance(part, ast.Name) and isinstance(part.ctx, ast.Store)
            ]
            self.assertEqual(taken & set(bound), set(), name)

    def test_imports_name_the_file_that_defines_the_name_and_are_used(self):
        for name, tree in self.trees.items():
            read = {part.id for part in ast.walk(tree) if isinstance(part, ast.Name)}
            for part in ast.walk(tree):
                if isinstance(part, ast.ImportFrom) and part.module.startswith("onestillview."):
                    there = list(bound_at_the_top(self.trees[part.module.split(".")[1] + ".py"]))
                    for alias in part.names:
                        self.assertIn(alias.name, there, name)
                        self.assertIn(alias.name, read, name)

    def test_files_do_not_import_from_each_other(self):
        needed = {
            name: {part.module.split(".")[-1] + ".py" for part in ast.walk(tree) if isinstance(part, ast.ImportFrom)}
            for name, tree in self.trees.items()
        }
        while needed:
            free = [name for name in needed if not needed[name] & set(needed)]
            self.assertNotEqual(free, [], "these import from each other")
            for name in free:
                del needed[name]

    def test_each_name_is_bound_once_at_the_top(self):
        for name, tree in self.trees.items():
            bound = list(bound_at_the_top(tree))
            self.assertEqual(len(bound), len(set(bound)), name)

    def test_attributes_and_methods(self):
        for part, place in self.parts(ast.ClassDef):
            own = {inner.attr for inner in ast.walk(part) if isinstance(inner, ast.Attribute)
                   and isinstance(inner.value, ast.Name) and isinstance(inner.ctx, ast.Store)}
            methods = [inner.name for inner in part.body if isinstance(inner, ast.FunctionDef)]
            self.assertEqual(own & set(methods), set(), place)
            self.assertEqual(own & set(BARRED_ATTRIBUTES), set(), place)
            self.assertEqual(len(methods), len(set(methods)), place)

    def test_is_stands_beside_none_and_bools_alone(self):
        for part, place in self.parts(ast.Compare):
            for sign, right in zip(part.ops, part.comparators):
                if isinstance(sign, (ast.Is, ast.IsNot)):
                    self.assertIsInstance(right, ast.Constant, place)
                    self.assertIn(repr(right.value), ("None", "True", "False"), place)

    def test_no_other_builtin_is_used(self):
        for part, place in self.parts(ast.Name):
            if hasattr(builtins, part.id):
                self.assertIn(part.id, BUILTINS, place)

    def test_what_is_not_in_the_subset(self):
        barred = (ast.AsyncFunctionDef, ast.Await, ast.AsyncFor, ast.AsyncWith, ast.Div, ast.MatMult)
        for part, place in self.parts(ast.stmt, ast.expr):
            self.assertNotIsInstance(part, barred, place)
            if isinstance(part, ast.BinOp):
                self.assertNotIsInstance(part.op, barred, place)
            if isinstance(part, ast.Constant):
                self.assertNotIsInstance(part.value, (float, complex), place)
            if isinstance(part, ast.ClassDef):
                self.assertEqual(part.decorator_list, [], place)

    def test_no_barred_name_is_bound(self):
        for name, tree in self.trees.items():
            self.assertEqual(set(bound_in(tree)) & set(BARRED_NAMES), set(), name)
        for part, place in self.parts(ast.Attribute):
            self.assertNotIn(part.attr, BARRED_NAMES[:9], place)

    def test_no_barred_word_stands_in_strings_or_names(self):
        docstrings = set()
        for name, tree in self.trees.items():
            for part in ast.walk(tree):
                if isinstance(part, (ast.Module, ast.ClassDef, ast.FunctionDef)) and ast.get_docstring(part):
                    docstrings.add(id(part.body[0].value))
            for part in ast.walk(tree):
                words = []
                if isinstance(part, ast.Constant) and isinstance(part.value, str) and id(part) not in docstrings:
                    words = re.findall(r"\w+", part.value)
                elif isinstance(part, ast.Name):
                    words = [part.id]
                elif isinstance(part, ast.Attribute):
                    words = [part.attr]
                self.assertEqual(set(words) & set(BARRED_WORDS), set(), f"{name}: {words}")

    def test_what_stands_behind_a_trial(self):
        """A finally block assigns names and attributes alone, in an if over None at most."""
        simple = (ast.Name, ast.Attribute, ast.Tuple, ast.Load, ast.Store, ast.Assign, ast.If, ast.Compare, ast.Is,
                  ast.IsNot, ast.Constant)
        for part, place in self.parts(ast.Try):
            for statement in part.finalbody:
                for inner in ast.walk(statement):
                    self.assertIsInstance(inner, simple, place)

    def test_builtins_take_lists_instead_of_generators(self):
        for part, place in self.parts(ast.Call):
            for told in part.args:
                self.assertNotIsInstance(told, ast.GeneratorExp, place)

    def test_ranges_and_the_like_are_walked_on_the_spot(self):
        # The subset lets a plain name keep some of them; the package does without.
        for name, tree in self.trees.items():
            self.assertEqual(not_walked_at_once(tree), [], name)

    def test_what_is_walked_on_the_spot_is_told_from_what_is_not(self):
        walked = (
            "for at in range(many): pass", "found = [at for at in reversed(lots)]", "found = list(range(many))",
            "found = lots_among(list(range(many)))", "found = min(table.values(), default=0)", "k = len(table.items())",
            "found = {at: one for at, one in enumerate(zip(lots, rest))}", "found = at in range(many)",
            "found = sum(range(many), start=1)", "found = at not in table.keys()", "found = ', '.join(table.keys())",
            "found = list(reversed(range(many)))",
        )
        for text in walked:
            self.assertEqual(not_walked_at_once(ast.parse(text)), [], text)
        for word in ("range(many)", "zip(lots, rest)", "enumerate(lots)", "reversed(lots)", "table.items()",
                     "table.keys()", "table.values()"):
            for text in ("lots_among(WORD)", "desk.answer(1, WORD)", "lots_among(walkers=WORD)", "found = WORD",
                         "found = [WORD]", "found = (WORD, 1)", "lots_among(*WORD)", "return WORD", "self.kept = WORD",
                         "found = WORD == lots", "found = zip_of(lots, WORD)", "found = list(zip(lots, WORD))",
                         "found = set(WORD)", "found = WORD or lots", "found = max(1, WORD)", "found = word.join(WORD)",
                         "found = max(WORD, key=len)"):
                row = text.replace("WORD", word)
                self.assertEqual(not_walked_at_once(ast.parse(row)), [1], row)
        for text in ("k = len(zip(lots, rest))", "found = list(reversed(table.items()))", "k = 1 in table.values()",
                     "k = 1 in zip(lots, rest)"):
            self.assertEqual(not_walked_at_once(ast.parse(text)), [1], text)


if __name__ == "__main__":
    unittest.main()

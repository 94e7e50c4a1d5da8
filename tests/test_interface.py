"""The interface as far as it has landed: names, parameters, and the files in which they are defined."""

import ast
import inspect
import pathlib
import unittest

from onestillview import errors, floors, texts

MODULES = {"errors": errors, "floors": floors, "texts": texts}
PARAMETERS = {
    "floors": {
        "at_distance": ["floor", "place", "steps"],
        "view": ["floor", "standing", "walker"],
        "is_view": ["floor", "value"],
        "turned": ["floor", "standing", "by", "is_mirrored"],
        "likenesses": ["floor", "one", "other"],
        "twins": ["floor", "standing"],
    },
    "texts": {
        "Program": ["text"],
        "program_of": ["marks", "lets", "step", "mark"],
        "thought": ["program", "floor", "view"],
        "moved": ["floor", "place", "sense", "step"],
    },
}
TEXT = "marks 2\nstep 1\nmark 1"
STANDING = ((0, 0, 1), (1, 1, -1))


def defined_in(name):
    """The names that this module's file defines by def and class at its top."""
    text = pathlib.Path(MODULES[name].__file__).read_text(encoding="utf-8")
    return [part.name for part in ast.parse(text).body if isinstance(part, (ast.FunctionDef, ast.ClassDef))]


class InterfaceTest(unittest.TestCase):
    def test_each_name_is_defined_in_its_own_file(self):
        for name, functions in PARAMETERS.items():
            defined = defined_in(name)
            for function in functions:
                self.assertIn(function, defined)

    def test_parameters_are_called_as_in_the_sections(self):
        for name, functions in PARAMETERS.items():
            for function, parameters in functions.items():
                signature = inspect.signature(getattr(MODULES[name], function))
                self.assertEqual(list(signature.parameters), parameters, function)
                for parameter in signature.parameters.values():
                    self.assertIs(parameter.kind, inspect.Parameter.POSITIONAL_OR_KEYWORD)
                    self.assertIs(parameter.default, inspect.Parameter.empty)

    def test_arguments_are_passed_by_position_or_by_name(self):
        floor = ("row", 3)
        program = texts.Program(TEXT)
        seen = floors.view(floor, STANDING, 0)
        calls = (
            (floors.at_distance, (floor, 0, 2)),
            (floors.view, (floor, STANDING, 0)),
            (floors.is_view, (floor, seen)),
            (floors.turned, (floor, STANDING, 0, True)),
            (floors.likenesses, (floor, STANDING, STANDING)),
            (floors.twins, (floor, STANDING)),
            (texts.Program, (TEXT,)),
            (texts.program_of, (2, (("a", "1"),), "1", "a")),
            (texts.thought, (program, floor, seen)),
            (texts.moved, (floor, 0, 1, 1)),
        )
        for call, told in calls:
            names = list(inspect.signature(call).parameters)
            by_position = call(*told)
            self.assertEqual(call(**dict(reversed(list(zip(names, told))))), by_position)
            self.assertEqual(call(*told[:1], **dict(zip(names[1:], told[1:]))), by_position)

    def test_programs_refuse_operators_but_equality(self):
        program = texts.Program(TEXT)
        for other in (program, 1, "a", None, ()):
            with self.assertRaises(TypeError):
                program < other
            with self.assertRaises(TypeError):
                program + other

    def test_equal_calls_return_equal_results(self):
        floor = ("ring", 4)
        for _ in range(2):
            self.assertEqual(floors.twins(floor, STANDING), ((0,), (1,)))
            self.assertEqual(texts.Program(TEXT), texts.Program(TEXT))
            self.assertEqual(texts.thought(texts.Program(TEXT), floor, floors.view(floor, STANDING, 1)), (1, 1))

    def test_the_program_needs_no_module_but_its_own(self):
        for path in pathlib.Path(errors.__file__).parent.glob("*.py"):
            for part in ast.walk(ast.parse(path.read_text(encoding="utf-8"))):
                self.assertNotIsInstance(part, ast.Import, path.name)
                if isinstance(part, ast.ImportFrom):
                    top = part.module.split(".")[0]
                    self.assertIn(top, ("onestillview", "heapq", "math", "itertools", "collections"), path.name)
                    self.assertEqual(part.level, 0)


if __name__ == "__main__":
    unittest.main()

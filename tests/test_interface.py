"""The interface as far as it has landed: names, parameters, and the files in which they are defined."""

import ast
import inspect
import pathlib
import unittest

from onestillview import beats, errors, floors, halls, lamps, texts

MODULES = {"errors": errors, "floors": floors, "texts": texts, "beats": beats, "halls": halls, "lamps": lamps}
PARAMETERS = {
    "floors": {
        "at_distance": ["floor", "place", "steps"],
        "view": ["floor", "standing", "walker"],
        "is_view": ["floor", "value"],
        "turned": ["floor", "standing", "by", "is_mirrored"],
        "likenesses": ["floor", "one", "other"],
        "twins": ["floor", "standing"],
    },
    "texts": {
        "Program": ["text"],
        "program_of": ["marks", "lets", "step", "mark"],
        "thought": ["program", "floor", "view"],
        "moved": ["floor", "place", "sense", "step"],
    },
    "beats": {
        "beat": ["program", "floor", "standing", "lot"],
        "run": ["program", "floor", "standing", "lots"],
        "is_kind": ["kind", "many", "value"],
        "eras": ["many", "lots"],
        "left": ["many", "lots"],
        "next_lots": ["kind", "many", "lots"],
    },
    "halls": {
        "Hall": ["program", "floor", "standing"],
        "replayed": ["program", "floor", "standing", "log"],
        "as_beats": ["hall"],
    },
    "lamps": {
        "fine_rule": [],
        "due": ["rule", "lamp", "seen"],
        "Lit": ["program", "floor", "standing", "rule"],
        "lit_of": ["program", "floor", "standing", "rule", "log"],
        "eras_of": ["lit"],
        "patterns": ["many"],
        "is_pattern": ["many", "value"],
    },
}
# For each class its methods with their parameters, and its properties.
METHODS = {
    "look": ["walker"], "think": ["walker"], "step": ["walker"], "go": ["walker"], "do": ["deed"], "held": ["walker"],
    "copy": [], "__len__": [], "__eq__": ["other"],
}
ATTRIBUTES = ["program", "floor", "first", "standing", "stages", "log"]
CLASSES = (
    ("texts", "Program", {"__eq__": ["other"]}, ["text", "marks"]),
    ("halls", "Hall", METHODS, ATTRIBUTES),
    ("lamps", "Lit", METHODS, ATTRIBUTES + ["lamps", "rule"]),
)
TEXT = "marks 2\nstep 1\nmark 1"
STANDING = ((0, 0, 1), (1, 1, -1))


def defined_in(name):
    """The names that this module's file defines by def and class at its top."""
    text = pathlib.Path(MODULES[name].__file__).read_text(encoding="utf-8")
    return [part.name for part in ast.parse(text).body if isinstance(part, (ast.FunctionDef, ast.ClassDef))]


class InterfaceTest(unittest.TestCase):
    def test_each_name_is_defined_in_its_own_file(self):
        for name, functions in PARAMETERS.items():
            defined = defined_in(name)
            for function in functions:
                self.assertIn(function, defined)

    def test_parameters_are_called_as_in_the_sections(self):
        for name, functions in PARAMETERS.items():
            for function, parameters in functions.items():
                signature = inspect.signature(getattr(MODULES[name], function))
                self.assertEqual(list(signature.parameters), parameters, function)
                for parameter in signature.parameters.values():
                    self.assertIs(parameter.kind, inspect.Parameter.POSITIONAL_OR_KEYWORD)
                    self.assertIs(parameter.default, inspect.Parameter.empty)

    def test_arguments_are_passed_by_position_or_by_name(self):
        floor = ("row", 3)
        program, rule = texts.Program(TEXT), lamps.fine_rule()
        seen = floors.view(floor, STANDING, 0)
        calls = (
            (floors.at_distance, (floor, 0, 2)),
            (floors.view, (floor, STANDING, 0)),
            (floors.is_view, (floor, seen)),
            (floors.turned, (floor, STANDING, 0, True)),
            (floors.likenesses, (floor, STANDING, STANDING)),
            (floors.twins, (floor, STANDING)),
            (texts.Program, (TEXT,)),
            (texts.program_of, (2, (("a", "1"),), "1", "a")),
            (texts.thought, (program, floor, seen)),
            (texts.moved, (floor, 0, 1, 1)),
            (beats.beat, (program, floor, STANDING, (0,))),
            (beats.run, (program, floor, STANDING, ((0,), (0, 1)))),
            (beats.is_kind, ("eras", 2, ((0,), (1,)))),
            (beats.eras, (2, ((0,), (1,)))),
            (beats.left, (2, ((0,),))),
            (beats.next_lots, ("eras", 2, ((0,),))),
            (halls.Hall, (program, floor, STANDING)),
            (halls.replayed, (program, floor, STANDING, (("look", 0),))),
            (halls.as_beats, (halls.Hall(program, floor, STANDING),)),
            (lamps.fine_rule, ()),
            (lamps.due, (rule, "wait", ())),
            (lamps.Lit, (program, floor, STANDING, rule)),
            (lamps.lit_of, (program, floor, STANDING, rule, (("look", 0),))),
            (lamps.eras_of, (lamps.Lit(program, floor, STANDING, rule),)),
            (lamps.patterns, (2,)),
            (lamps.is_pattern, (2, ("wait",))),
        )
        for call, told in calls:
            names = list(inspect.signature(call).parameters)
            by_position = call(*told)
            self.assertEqual(call(**dict(reversed(list(zip(names, told))))), by_position)
            self.assertEqual(call(*told[:1], **dict(zip(names[1:], told[1:]))), by_position)

    def new_objects(self):
        """One object of each class, by the class's name."""
        program = texts.Program(TEXT)
        return {
            "Program": program,
            "Hall": halls.Hall(program, ("row", 3), STANDING),
            "Lit": lamps.Lit(program, ("row", 3), STANDING, lamps.fine_rule()),
        }

    def test_each_method_is_defined_in_its_own_class(self):
        for module, name, methods, _ in CLASSES:
            found = vars(getattr(MODULES[module], name))
            for method, parameters in methods.items():
                self.assertTrue(inspect.isfunction(found.get(method)), f"{name}.{method}")
                self.assertEqual(list(inspect.signature(found[method]).parameters), ["self"] + parameters)

    def test_each_attribute_is_set_when_the_object_is_created(self):
        objects = self.new_objects()
        for _, name, _, attributes in CLASSES:
            self.assertLessEqual(set(attributes), set(vars(objects[name])), name)

    def test_methods_take_arguments_by_name(self):
        objects = self.new_objects()
        for one in (objects["Hall"], objects["Lit"]):
            one.look(walker=1)
            self.assertEqual(one.held(walker=1), one.held(1))
            one.think(walker=1)
            one.step(walker=1)
            one.go(walker=0)
            one.do(deed=("look", 0))
            self.assertEqual(len(one), 7)

    def test_programs_refuse_operators_but_equality(self):
        program = texts.Program(TEXT)
        for other in (program, 1, "a", None, ()):
            with self.assertRaises(TypeError):
                program < other
            with self.assertRaises(TypeError):
                program + other

    def test_equal_calls_return_equal_results(self):
        floor = ("ring", 4)
        for _ in range(2):
            self.assertEqual(floors.twins(floor, STANDING), ((0,), (1,)))
            self.assertEqual(texts.Program(TEXT), texts.Program(TEXT))
            self.assertEqual(texts.thought(texts.Program(TEXT), floor, floors.view(floor, STANDING, 1)), (1, 1))
            self.assertEqual(beats.next_lots("eras", 2, ((0,),)), ((1,),))
            self.assertEqual(halls.as_beats(halls.Hall(texts.Program(TEXT), floor, STANDING)), ())
            self.assertEqual(len(lamps.patterns(3)), 21)
            self.assertEqual(lamps.fine_rule()[1], ((), ("wait",)))

    def test_the_program_needs_no_module_but_its_own(self):
        for path in pathlib.Path(errors.__file__).parent.glob("*.py"):
            for part in ast.walk(ast.parse(path.read_text(encoding="utf-8"))):
                self.assertNotIsInstance(part, ast.Import, path.name)
                if isinstance(part, ast.ImportFrom):
                    top = part.module.split(".")[0]
                    self.assertIn(top, ("onestillview", "heapq", "math", "itertools", "collections"), path.name)
                    self.assertEqual(part.level, 0)


if __name__ == "__main__":
    unittest.main()

"""The interface: names, parameters, and the files in which they are defined."""

import ast
import inspect
import pathlib
import unittest

from onestillview import beats, benches, bringing, desk, errors, floors, halls, journals, lamps, rules, texts, told
from onestillview import worlds

MODULES = {
    "errors": errors, "floors": floors, "texts": texts, "beats": beats, "halls": halls, "lamps": lamps, "told": told,
    "bringing": bringing, "rules": rules, "worlds": worlds, "benches": benches, "journals": journals, "desk": desk,
}
PARAMETERS = {
    "floors": {
        "at_distance": ["floor", "place", "steps"],
        "view": ["floor", "standing", "walker"],
        "is_view": ["floor", "value"],
        "turned": ["floor", "standing", "by", "is_mirrored"],
        "likenesses": ["floor", "one", "other"],
        "twins": ["floor", "standing"],
    },
    "texts": {
        "Program": ["text"],
        "program_of": ["marks", "lets", "step", "mark"],
        "thought": ["program", "floor", "view"],
        "moved": ["floor", "place", "sense", "step"],
    },
    "beats": {
        "beat": ["program", "floor", "standing", "lot"],
        "run": ["program", "floor", "standing", "lots"],
        "is_kind": ["kind", "many", "value"],
        "eras": ["many", "lots"],
        "left": ["many", "lots"],
        "next_lots": ["kind", "many", "lots"],
    },
    "halls": {
        "Hall": ["program", "floor", "standing"],
        "replayed": ["program", "floor", "standing", "log"],
        "as_beats": ["hall"],
    },
    "lamps": {
        "fine_rule": [],
        "due": ["rule", "lamp", "seen"],
        "Lit": ["program", "floor", "standing", "rule"],
        "lit_of": ["program", "floor", "standing", "rule", "log"],
        "eras_of": ["lit"],
        "patterns": ["many"],
        "is_pattern": ["many", "value"],
    },
    "told": {
        "told_lots": ["lit"],
        "told_run": ["lit"],
        "told_at": ["lit", "many"],
        "views_of": ["lit", "number"],
        "pending": ["lit"],
        "times": ["lit", "walker"],
        "settled": ["lit"],
        "is_grown": ["one", "other"],
        "is_told": ["program", "floor", "standing", "log", "value"],
    },
    "bringing": {
        "brought": ["program", "floor", "standing", "lots"],
        "shows_brought": ["program", "floor", "standing", "lots", "value"],
        "least_deeds": ["many", "lots"],
        "deeds_of": ["many", "sizes"],
    },
    "rules": {
        "faults": ["rule", "many"],
        "fault": ["rule", "many", "word"],
        "shows_fault": ["rule", "many", "word", "value"],
        "broken": ["rule", "many", "weaving"],
        "lesser": ["rule"],
        "needed": ["rule", "many"],
    },
    "worlds": {
        "meets": ["floor", "standing", "claim"],
        "come_to": ["kind", "program", "floor", "standing", "most"],
        "holds": ["kind", "program", "floor", "standing", "claim", "most"],
        "shows_holds": ["kind", "program", "floor", "standing", "claim", "most", "value"],
        "surely": ["kind", "program", "floor", "standing", "claim", "most"],
        "shows_surely": ["kind", "program", "floor", "standing", "claim", "most", "value"],
        "astray": ["program", "floor", "standing", "most"],
        "shows_astray": ["program", "floor", "standing", "most", "value"],
    },
    "benches": {"Bench": ["text", "floor", "standing"]},
    "journals": {"journal": ["bench"], "read_journal": ["text"]},
    "desk": {"Desk": ["text"]},
}
# For each class its methods with their parameters, and its properties.
METHODS = {
    "look": ["walker"], "think": ["walker"], "step": ["walker"], "go": ["walker"], "do": ["deed"], "held": ["walker"],
    "copy": [], "__len__": [], "__eq__": ["other"],
}
ATTRIBUTES = ["program", "floor", "first", "standing", "stages", "log"]
BENCH_METHODS = {
    "look": ["walker"], "think": ["walker"], "step": ["walker"], "go": ["walker"], "turns": ["many"],
    "stand": ["standing"], "lit_now": [], "undo": [], "redo": [], "tried": ["look", "keep"], "keep": [], "copy": [],
    "__len__": [], "__eq__": ["other"],
}
BENCH_ATTRIBUTES = ["program", "floor", "standing", "stages", "lamps", "deeds"]
CLASSES = (
    ("texts", "Program", {"__eq__": ["other"]}, ["text", "marks"]),
    ("halls", "Hall", METHODS, ATTRIBUTES),
    ("lamps", "Lit", METHODS, ATTRIBUTES + ["lamps", "rule"]),
    ("benches", "Bench", BENCH_METHODS, BENCH_ATTRIBUTES),
    ("desk", "Desk", {"say": ["line"]}, ["bench"]),
)
TEXT = "marks 2\nstep 1\nmark 1"
STANDING = ((0, 0, 1), (1, 1, -1))


def defined_in(name):
    """The names that this module's file defines by def and class at its top."""
    text = pathlib.Path(MODULES[name].__file__).read_text(encoding="utf-8")
    return [part.name for part in ast.parse(text).body if isinstance(part, (ast.FunctionDef, ast.ClassDef))]


class InterfaceTest(unittest.TestCase):
    def test_each_name_is_defined_in_its_own_file(self):
        for name, functions in PARAMETERS.items():
            defined = defined_in(name)
            for function in functions:
                self.assertIn(function, defined)

    def test_parameters_are_called_as_in_the_sections(self):
        for name, functions in PARAMETERS.items():
            for function, parameters in functions.items():
                signature = inspect.signature(getattr(MODULES[name], function))
                self.assertEqual(list(signature.parameters), parameters, function)
                for parameter in signature.parameters.values():
                    self.assertIs(parameter.kind, inspect.Parameter.POSITIONAL_OR_KEYWORD)
                    self.assertIs(parameter.default, inspect.Parameter.empty)

    def test_arguments_are_passed_by_position_or_by_name(self):
        floor = ("row", 3)
        program, rule = texts.Program(TEXT), lamps.fine_rule()
        seen = floors.view(floor, STANDING, 0)
        calls = (
            (floors.at_distance, (floor, 0, 2)),
            (floors.view, (floor, STANDING, 0)),
            (floors.is_view, (floor, seen)),
            (floors.turned, (floor, STANDING, 0, True)),
            (floors.likenesses, (floor, STANDING, STANDING)),
            (floors.twins, (floor, STANDING)),
            (texts.Program, (TEXT,)),
            (texts.program_of, (2, (("a", "1"),), "1", "a")),
            (texts.thought, (program, floor, seen)),
            (texts.moved, (floor, 0, 1, 1)),
            (beats.beat, (program, floor, STANDING, (0,))),
            (beats.run, (program, floor, STANDING, ((0,), (0, 1)))),
            (beats.is_kind, ("eras", 2, ((0,), (1,)))),
            (beats.eras, (2, ((0,), (1,)))),
            (beats.left, (2, ((0,),))),
            (beats.next_lots, ("eras", 2, ((0,),))),
            (halls.Hall, (program, floor, STANDING)),
            (halls.replayed, (program, floor, STANDING, (("look", 0),))),
            (halls.as_beats, (halls.Hall(program, floor, STANDING),)),
            (lamps.fine_rule, ()),
            (lamps.due, (rule, "wait", ())),
            (lamps.Lit, (program, floor, STANDING, rule)),
            (lamps.lit_of, (program, floor, STANDING, rule, (("look", 0),))),
            (lamps.eras_of, (lamps.Lit(program, floor, STANDING, rule),)),
            (lamps.patterns, (2,)),
            (lamps.is_pattern, (2, ("wait",))),
        ) + self.later_calls(program, floor, rule)
        self.assertEqual({call for call, _ in calls}, {
            getattr(MODULES[name], function) for name, functions in PARAMETERS.items() for function in functions
        } - {desk.Desk})
        for call, values in calls:
            names = list(inspect.signature(call).parameters)
            by_position = call(*values)
            self.assertEqual(call(**dict(reversed(list(zip(names, values))))), by_position)
            self.assertEqual(call(*values[:1], **dict(zip(names[1:], values[1:]))), by_position)

    def later_calls(self, program, floor, rule):
        """Calls of the functions that stand on Lits."""
        log = bringing.brought(program, floor, STANDING, ((0,), (1,)))
        lit, claim = lamps.lit_of(program, floor, STANDING, rule, log), ("apart",)
        bench = benches.Bench(TEXT, floor, STANDING)
        return (
            (told.told_lots, (lit,)),
            (told.told_run, (lit,)),
            (told.told_at, (lit, 20)),
            (told.views_of, (lit, 1)),
            (told.pending, (lit,)),
            (told.times, (lit, 1)),
            (told.settled, (lit,)),
            (told.is_grown, (((0,),), ((0, 1),))),
            (told.is_told, (program, floor, STANDING, log, ((0,), (1,)))),
            (bringing.brought, (program, floor, STANDING, ((0,),))),
            (bringing.shows_brought, (program, floor, STANDING, ((0,), (1,)), log)),
            (bringing.least_deeds, (2, ((0,), (1,)))),
            (bringing.deeds_of, (9, (1, 8))),
            (rules.faults, (rule, 2)),
            (rules.fault, (rule, 2, "views")),
            (rules.shows_fault, (rule, 2, "views", None)),
            (rules.broken, (rule, 2, log)),
            (rules.lesser, (rule,)),
            (rules.needed, (rule, 2)),
            (worlds.meets, (floor, STANDING, claim)),
            (worlds.come_to, ("own", program, floor, STANDING, 99)),
            (worlds.holds, ("lit", program, floor, STANDING, claim, 99)),
            (worlds.shows_holds, ("lit", program, floor, STANDING, claim, 99, ("breaks", log))),
            (worlds.surely, ("eras", program, floor, STANDING, ("together",), 99)),
            (worlds.shows_surely, ("eras", program, floor, STANDING, claim, 99, ("surely", 0))),
            (worlds.astray, (program, floor, STANDING, 99)),
            (worlds.shows_astray, (program, floor, STANDING, 99, None)),
            (benches.Bench, (TEXT, floor, STANDING)),
            (journals.journal, (bench,)),
            (journals.read_journal, (journals.journal(bench),)),
        )

    def test_desks_take_arguments_by_name(self):
        text = journals.journal(benches.Bench(TEXT, ("row", 3), STANDING))
        one, other = desk.Desk(text), desk.Desk(text=text)
        self.assertEqual(one.bench, other.bench)
        self.assertEqual(other.say(line="go 1"), one.say("go 1"))
        self.assertEqual(one.bench, other.bench)

    def new_objects(self):
        """One object of each class, by the class's name."""
        program = texts.Program(TEXT)
        bench = benches.Bench(TEXT, ("row", 3), STANDING)
        return {
            "Program": program,
            "Hall": halls.Hall(program, ("row", 3), STANDING),
            "Lit": lamps.Lit(program, ("row", 3), STANDING, lamps.fine_rule()),
            "Bench": bench,
            "Desk": desk.Desk(journals.journal(bench)),
        }

    def test_each_method_is_defined_in_its_own_class(self):
        for module, name, methods, _ in CLASSES:
            found = vars(getattr(MODULES[module], name))
            for method, parameters in methods.items():
                self.assertTrue(inspect.isfunction(found.get(method)), f"{name}.{method}")
                self.assertEqual(list(inspect.signature(found[method]).parameters), ["self"] + parameters)

    def test_each_attribute_is_set_when_the_object_is_created(self):
        objects = self.new_objects()
        for _, name, _, attributes in CLASSES:
            self.assertLessEqual(set(attributes), set(vars(objects[name])), name)

    def test_methods_take_arguments_by_name(self):
        objects = self.new_objects()
        for one in (objects["Hall"], objects["Lit"]):
            one.look(walker=1)
            self.assertEqual(one.held(walker=1), one.held(1))
            one.think(walker=1)
            one.step(walker=1)
            one.go(walker=0)
            one.do(deed=("look", 0))
            self.assertEqual(len(one), 7)
        bench = objects["Bench"]
        bench.look(walker=1)
        bench.think(walker=1)
        bench.step(walker=1)
        bench.go(walker=0)
        bench.turns(many=1)
        bench.stand(standing=STANDING)
        self.assertEqual(bench.tried(look=len, keep=False), 0)
        self.assertEqual(bench.deeds, 6)

    def test_keep_is_by_name_and_false_by_itself(self):
        parameters = inspect.signature(benches.Bench.tried).parameters
        self.assertIs(parameters["keep"].kind, inspect.Parameter.KEYWORD_ONLY)
        self.assertIs(parameters["keep"].default, False)

    def test_programs_refuse_operators_but_equality(self):
        program = texts.Program(TEXT)
        for other in (program, 1, "a", None, ()):
            with self.assertRaises(TypeError):
                program < other
            with self.assertRaises(TypeError):
                program + other

    def test_equal_calls_return_equal_results(self):
        floor = ("ring", 4)
        for _ in range(2):
            self.assertEqual(floors.twins(floor, STANDING), ((0,), (1,)))
            self.assertEqual(texts.Program(TEXT), texts.Program(TEXT))
            self.assertEqual(texts.thought(texts.Program(TEXT), floor, floors.view(floor, STANDING, 1)), (1, 1))
            self.assertEqual(beats.next_lots("eras", 2, ((0,),)), ((1,),))
            self.assertEqual(halls.as_beats(halls.Hall(texts.Program(TEXT), floor, STANDING)), ())
            self.assertEqual(len(lamps.patterns(3)), 21)
            self.assertEqual(lamps.fine_rule()[1], ((), ("wait",)))

    def test_the_program_needs_no_module_but_its_own(self):
        for path in pathlib.Path(errors.__file__).parent.glob("*.py"):
            for part in ast.walk(ast.parse(path.read_text(encoding="utf-8"))):
                self.assertNotIsInstance(part, ast.Import, path.name)
                if isinstance(part, ast.ImportFrom):
                    top = part.module.split(".")[0]
                    self.assertIn(top, ("onestillview", "heapq", "math", "itertools", "collections"), path.name)
                    self.assertEqual(part.level, 0)


if __name__ == "__main__":
    unittest.main()

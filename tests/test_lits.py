"""Point 8: Lits, and what guarantees (c), (e) and (h) tell of them."""

import random
import unittest

from onestillview.errors import BadDeed, BadFloor, BadLog, BadRule, BadStanding, BadWalker, Busy, NoLook, NoProgram
from onestillview.errors import NoThought
from onestillview.floors import turned, view
from onestillview.halls import Hall
from onestillview.lamps import Lit, eras_of, fine_rule, is_pattern, lit_of
from onestillview.texts import Program
from tests.helpers import BAD_FLOORS, BAD_STANDINGS, NO_PROGRAMS, STILL
from tests.helpers import Refusals, random_start, random_ways, refusal, renumbered
from tests.models import BAD_DEEDS, CYCLE, LAMPS, NO_WALKERS, NONE, OPEN
from tests.models import Model, random_deeds, random_log, random_rule, told_of

FORTH = Program("marks 2\nstep 1\nmark plus mine 1")
RING = ("ring", 4)
FIRST = ((0, 0, 1), (2, 0, -1))
FINE = fine_rule()
# By this rule each one steps as soon as it can, whatever others show.
RASH = FINE[:1] + ((NONE,) * 6)


def new_lit(rule=FINE):
    """The Lit of the document's example, by the fine rule if nothing else is told."""
    return Lit(FORTH, RING, FIRST, rule)


def going(lit, *walkers):
    """The Lit, behind these walkers have gone one behind another."""
    for walker in walkers:
        lit.go(walker)
    return lit


def cycles(*walkers):
    """The deeds of these walkers, who go one behind another."""
    return tuple((word, walker) for walker in walkers for word in ("look", "think", "step"))


class LitCase(Refusals, unittest.TestCase):
    def assert_refused_without_change(self, lit, wrong, value, call, *told):
        """The call raises this error, and the lit is as it was."""
        ahead, before = told_of(lit), lit.copy()
        self.assert_refused(wrong, value, call, *told)
        self.assertEqual(told_of(lit), ahead)
        self.assertEqual(lit, before)


class DeedsTest(LitCase):
    def test_the_example(self):
        lit = going(new_lit(), 0, 1, 0, 1)
        self.assertIsNone(lit.look(0))
        self.assertEqual(lit.lamps, ("go", "go"))
        self.assertEqual(lit.held(0), ((0, (), ((), (0,), ()), ((), (0,), ())), 2))
        self.assertIsNone(lit.think(0))
        self.assertIsNone(lit.go(1))
        self.assertEqual((lit.lamps, lit.standing), (("step", "wait"), ((0, 1, 1), (2, 0, -1))))
        self.assertEqual((lit.held(0), len(lit), lit.rule == fine_rule()), (1, 17, True))
        for walker in (0, 1, 0, 1, 1, 1):
            self.assertIsNone(lit.step(walker) if lit.stages[walker] == "thought" else lit.go(walker))
        self.assertEqual((lit.lamps, lit.standing), (("done", "step"), ((1, 1, 1), (1, 1, -1))))
        self.assertEqual(eras_of(lit), 1)

    def test_at_the_beginning(self):
        for program, floor, first in ((FORTH, RING, FIRST), (STILL, ("row", 1), ((0, 0, -1),) * 5)):
            for rule in (FINE, OPEN):
                lit = Lit(program, floor, first, rule)
                many = len(first)
                self.assertIs(lit.program, program)
                self.assertEqual((lit.floor, lit.first, lit.standing, lit.rule), (floor, first, first, rule))
                self.assertEqual((lit.stages, lit.lamps), (("idle",) * many, ("wait",) * many))
                self.assertEqual((lit.log, len(lit), eras_of(lit)), ((), 0, 0))
                self.assertEqual([lit.held(walker) for walker in range(many)], [None] * many)

    def test_each_deed_at_each_stage(self):
        lit = new_lit()
        stages = (
            ("idle", (("think", NoLook), ("step", NoThought)), "look"),
            ("looked", (("look", Busy), ("step", NoThought)), "think"),
            ("thought", (("look", Busy), ("think", NoLook)), "step"),
        )
        for _ in range(4):
            for stage, refused, right in stages:
                self.assertEqual(lit.stages, (stage, "idle"))
                for word, wrong in refused:
                    self.assert_refused_without_change(lit, wrong, 0, getattr(lit, word), 0)
                    self.assert_refused_without_change(lit, wrong, 0, lit.do, (word, 0))
                if stage != "idle":
                    self.assert_refused_without_change(lit, Busy, 0, lit.go, 0)
                many = len(lit)
                getattr(lit, right)(0)
                self.assertEqual((len(lit), lit.log[-1]), (many + 1, (right, 0)))

    def test_lamps_change_with_the_think_alone(self):
        lit = new_lit()
        lamps = []
        for deed in CYCLE:
            lit.do(deed)
            lamps.append(lit.lamps)
        self.assertEqual(lamps, [("wait", "wait"), ("try", "wait"), ("try", "wait")])

    def test_one_walker_by_the_fine_rule(self):
        lit = Lit(FORTH, RING, ((3, 0, 1),), FINE)
        shown, standings, held = [], [], []
        for number in range(12):
            lit.look(0)
            held.append(lit.held(0))
            lit.think(0)
            held.append(lit.held(0))
            lit.step(0)
            shown.append(lit.lamps[0])
            standings.append(lit.standing)
        self.assertEqual(shown, ["try", "go", "step", "done", "reset", "wait"] * 2)
        self.assertEqual(standings, [((3, 0, 1),)] * 2 + [((0, 1, 1),)] * 6 + [((1, 1, 1),)] * 4)
        self.assertEqual([number for _, number in held[::2]], [0, 1, 2, 4, 5, 6] * 2)
        self.assertEqual(held[1::2], [0, 0, 1, 0, 0, 0] * 2)
        self.assertEqual(eras_of(lit), 2)

    def test_no_change_is_due(self):
        # Walker 1 waits, so that 0 cannot go: its look, think and step are deeds all the same.
        lit = going(new_lit(), 0)
        lit.look(0)
        self.assertEqual(lit.held(0), (view(RING, FIRST, 0), None))
        lit.think(0)
        self.assertEqual((lit.lamps, lit.held(0), lit.standing), (("try", "wait"), 0, FIRST))
        lit.step(0)
        self.assertEqual((lit.lamps, lit.standing, len(lit), lit.stages), (("try", "wait"), FIRST, 6, ("idle", "idle")))

    def test_the_mark_and_the_step_by_the_step_change_alone(self):
        # By the open rule each change is due at once: the third one of the six moves.
        lit = Lit(FORTH, RING, FIRST, OPEN)
        for number in range(18):
            lit.go(1)
            moves = (number + 4) // 6
            place, mark, sense = lit.standing[1]
            self.assertEqual((place, mark, sense), ((2 - moves) % 4, min(moves, 1), -1))
            self.assertEqual(lit.standing[0], FIRST[0])

    def test_what_is_held_is_that_of_the_look(self):
        lit = going(new_lit(), 0, 1, 0, 1)
        lit.look(1)
        held = lit.held(1)
        self.assertEqual(held, (view(RING, FIRST, 1), 2))
        going(lit, 0)
        self.assertEqual(lit.lamps, ("step", "go"))
        # Now the change to wait would be due, and the view is another one.
        self.assertEqual(lit.held(1), held)
        self.assertNotEqual(view(RING, lit.standing, 1), held[0])
        lit.think(1)
        self.assertEqual((lit.lamps, lit.held(1)), (("step", "step"), 1))
        lit.step(1)
        self.assertEqual(lit.standing, ((1, 1, 1), (1, 1, -1)))

    def test_a_change_is_made_though_it_is_due_no_more(self):
        lit = new_lit()
        lit.look(0)
        going(lit, 1)
        self.assertEqual(lit.lamps, ("wait", "try"))
        lit.think(0)
        lit.step(0)
        self.assertEqual(lit.lamps, ("try", "try"))

    def test_who_goes_sees_a_step_waits_and_steps_behind_it(self):
        count = Program("marks 4\nstep 0\nmark marked 2 1")
        lit = going(Lit(count, RING, FIRST, FINE), 0, 1, 0, 1)
        going(lit, 0)
        # The mark of 0 is count's, 0: nobody had the mark 1.
        self.assertEqual((lit.lamps, lit.standing), (("step", "go"), FIRST))
        going(lit, 1)
        self.assertEqual((lit.lamps, lit.standing), (("step", "wait"), FIRST))
        going(lit, 1)
        self.assertEqual(lit.lamps, ("step", "wait"))
        going(lit, 0)
        self.assertEqual(lit.lamps, ("done", "wait"))
        going(lit, 0)
        self.assertEqual(lit.lamps, ("done", "wait"))
        going(lit, 1, 1, 1)
        self.assertEqual((lit.lamps, eras_of(lit)), (("done", "step"), 1))
        going(lit, 1, 0)
        self.assertEqual(lit.lamps, ("reset", "done"))

    def test_who_steps_behind_another_one_sees_what_that_one_did(self):
        # Each one takes the mark that is one greater than that of the other one, two steps away.
        after = Program("marks 4\nstep 0\nmark pick marked 2 1 pick marked 2 2 1 3 2")
        lit = going(Lit(after, RING, FIRST, FINE), 0, 1, 0, 1, 0, 1, 0, 1, 1, 1)
        self.assertEqual(lit.lamps, ("done", "step"))
        self.assertEqual([mark for _, mark, _ in lit.standing], [1, 2])
        # Beside one another they see the same standing.
        lit = going(Lit(after, RING, FIRST, FINE), 0, 1, 0, 1)
        for word in ("look", "think", "step"):
            for walker in (0, 1):
                lit.do((word, walker))
        self.assertEqual([mark for _, mark, _ in lit.standing], [1, 1])

    def test_lamps_are_seen_wherever_they_stand(self):
        for floor, first in ((("row", 8), ((0, 0, -1), (7, 0, 1))), (("row", 1), ((0, 0, 1), (0, 0, 1)))):
            lit = going(Lit(FORTH, floor, first, FINE), 0, 0)
            self.assertEqual(lit.lamps, ("try", "wait"))
            going(lit, 1, 0, 1, 0)
            self.assertEqual(lit.lamps, ("step", "go"))

    def test_the_own_lamp_is_not_seen(self):
        # Who waits tries though it waits itself, if nobody else does.
        rule = (((), ("wait",)),) + OPEN[1:]
        self.assertEqual(going(Lit(FORTH, RING, FIRST[:1], rule), 0).lamps, ("try",))
        self.assertEqual(going(Lit(FORTH, RING, FIRST, rule), 0).lamps, ("wait", "wait"))
        rule = ((("wait",), ()),) + OPEN[1:]
        self.assertEqual(going(Lit(FORTH, RING, FIRST[:1], rule), 0).lamps, ("wait",))
        self.assertEqual(going(Lit(FORTH, RING, FIRST, rule), 0).lamps, ("try", "wait"))

    def test_go_is_three_deeds(self):
        lit = going(new_lit(), 1)
        self.assertEqual(lit.log, cycles(1))
        self.assertEqual((lit.stages, lit.lamps, len(lit)), (("idle", "idle"), ("wait", "try"), 3))

    def test_many_deeds_against_the_model(self):
        chance = random.Random(71)
        for number in range(300):
            program, floor, first = random_start(chance, 1 + number % 5)
            rule = FINE if chance.random() < 0.5 else random_rule(chance, chance.randint(0, 2))
            lit, model = Lit(program, floor, first, rule), Model(program, floor, first, rule)
            for word, walker in random_deeds(chance, len(first), 60):
                found = refusal(lit.do, (word, walker))
                if model.do(word, walker):
                    self.assertIsNone(found)
                else:
                    self.assertEqual(found, ({"look": Busy, "think": NoLook, "step": NoThought}[word], walker))
                self.assertEqual(told_of(lit), model.told())
                self.assertEqual((len(lit), eras_of(lit)), (len(model.log), min(model.thoughts)))

    def test_kinds_of_what_is_told(self):
        lit = going(new_lit(), 0)
        lit.look(1)
        told = (lit.standing, lit.first, lit.stages, lit.lamps, lit.log, lit.log[0], lit.rule, lit.held(1), lit.floor)
        for value in told:
            self.assertIs(type(value), tuple)
        self.assertEqual([type(part) for part in lit.held(1)], [tuple, int])
        self.assertEqual([type(len(lit)), type(eras_of(lit))], [int, int])


class RefusedDeedsTest(LitCase):
    def test_walkers(self):
        for many in (0, 1, 2, 3, 4):
            lit = new_lit()
            for deed in (("look", 0), ("think", 0), ("look", 1), ("step", 0))[:many]:
                lit.do(deed)
            for walker in NO_WALKERS:
                for call in (lit.look, lit.think, lit.step, lit.go, lit.held):
                    self.assert_refused_without_change(lit, BadWalker, walker, call, walker)
                for word in ("look", "think", "step"):
                    self.assert_refused_without_change(lit, BadWalker, walker, lit.do, (word, walker))

    def test_forms_of_deeds(self):
        lit = new_lit()
        lit.look(0)
        for deed in BAD_DEEDS + (("go", 9), (None, None)):
            self.assert_refused_without_change(lit, BadDeed, deed, lit.do, deed)


class LitsAsValuesTest(unittest.TestCase):
    def test_equality(self):
        lit = new_lit()
        self.assertTrue(lit == new_lit())
        self.assertFalse(lit != new_lit())
        others = (
            Lit(STILL, RING, FIRST, FINE), Lit(FORTH, ("ring", 5), FIRST, FINE), Lit(FORTH, ("row", 4), FIRST, FINE),
            Lit(FORTH, RING, FIRST[::-1], FINE), new_lit(OPEN), new_lit(RASH), going(new_lit(), 0),
        )
        for other in others:
            self.assertFalse(lit == other)
            self.assertTrue(lit != other)
        self.assertEqual(Lit(Program(FORTH.text), ("ring", 4), tuple(FIRST), tuple(FINE)), lit)

    def test_equality_goes_by_rules_and_logs(self):
        logs = ((), CYCLE, CYCLE[:1], CYCLE[:2], cycles(1), cycles(0, 1), cycles(1, 0))
        lits = [lit_of(FORTH, RING, FIRST, rule, log) for rule in (FINE, RASH, OPEN) for log in logs]
        for one, lit in enumerate(lits):
            for other, another in enumerate(lits):
                self.assertEqual(lit == another, one == other)
        # One walker alone does the same by both rules.
        alone = [lit_of(FORTH, RING, FIRST[:1], rule, cycles(0, 0, 0)) for rule in (FINE, RASH)]
        self.assertEqual(told_of(alone[0]), told_of(alone[1]))
        self.assertNotEqual(alone[0], alone[1])

    def test_equal_nothing_else(self):
        lit, hall = new_lit(), Hall(FORTH, RING, FIRST)
        for value in (hall, None, 0, True, False, (), FIRST, [], {}, "", FORTH, lit.log, FINE):
            self.assertIs(lit == value, False)
            self.assertIs(value == lit, False)
            self.assertIs(lit != value, True)

    def test_operators(self):
        lit = new_lit()
        for other in (lit, Hall(FORTH, RING, FIRST), 1, None, (), "a"):
            with self.assertRaises(TypeError):
                lit < other
            with self.assertRaises(TypeError):
                lit + other

    def test_a_copy_is_equal_and_by_itself(self):
        log = cycles(0, 1, 0, 1) + (("look", 1), ("look", 0), ("think", 1), ("think", 0), ("step", 0)) + cycles(0)
        for many in range(len(log) + 1):
            lit = lit_of(FORTH, RING, FIRST, FINE, log[:many])
            told, eras = told_of(lit), eras_of(lit)
            copy = lit.copy()
            self.assertIs(type(copy), Lit)
            self.assertIsNot(copy, lit)
            self.assertEqual(copy, lit)
            self.assertEqual(told_of(copy), told)
            self.assertEqual((copy.program, copy.floor, copy.first, copy.rule), (FORTH, RING, FIRST, FINE))
            self.assertEqual((len(copy), eras_of(copy)), (many, eras))
            for deed in log[many:]:
                copy.do(deed)
            self.assertEqual((told_of(lit), eras_of(lit)), (told, eras))
            whole = lit_of(FORTH, RING, FIRST, FINE, log)
            self.assertEqual(copy, whole)
            self.assertEqual((told_of(copy), eras_of(copy)), (told_of(whole), 1))
            for deed in log[many:-1]:
                lit.do(deed)
            self.assertEqual(told_of(copy), told_of(whole))

    def test_what_was_told_stays(self):
        lit = new_lit()
        told = (lit.standing, lit.stages, lit.lamps, lit.log, lit.rule)
        going(lit, 0, 1)
        self.assertEqual(told, (FIRST, ("idle", "idle"), ("wait", "wait"), (), FINE))


class LitOfTest(LitCase):
    def test_the_lit_behind_the_deeds(self):
        chance = random.Random(72)
        for _ in range(150):
            program, floor, first = random_start(chance)
            rule = chance.choice((FINE, RASH, random_rule(chance)))
            log = random_log(chance, len(first), chance.randint(0, 50))
            lit, model = lit_of(program, floor, first, rule, log), Model(program, floor, first, rule)
            for word, walker in log:
                self.assertTrue(model.do(word, walker))
            self.assertIs(type(lit), Lit)
            self.assertEqual(told_of(lit), model.told())
            self.assertEqual((lit.log, eras_of(lit)), (log, min(model.thoughts)))
            self.assertEqual(lit_of(program, floor, first, rule, lit.log), lit)

    def test_no_deeds(self):
        self.assertEqual(lit_of(FORTH, RING, FIRST, FINE, ()), new_lit())

    def assert_log_refused(self, number, log):
        """The log is refused by this number."""
        self.assert_numbered(BadLog, number, lit_of, FORTH, RING, FIRST, FINE, log)

    def test_logs(self):
        for log in (None, True, 0, "", "look", [], [("look", 0)], list(CYCLE), {}, {0: ("look", 0)}, FORTH, new_lit()):
            self.assertEqual(refusal(lit_of, FORTH, RING, FIRST, FINE, log), (BadLog, None))
        for deed in BAD_DEEDS:
            self.assert_log_refused(0, (deed,))
            self.assert_log_refused(3, CYCLE + (deed, None))
        for walker in NO_WALKERS:
            for word in ("look", "think", "step"):
                self.assert_log_refused(3, CYCLE + ((word, walker), ("look", 0)))
        self.assert_log_refused(0, (("think", 0),))
        self.assert_log_refused(0, (("step", 0),))
        self.assert_log_refused(1, (("look", 0), ("look", 0), None))
        self.assert_log_refused(1, (("look", 0), ("step", 0)))
        self.assert_log_refused(2, CYCLE[:2] + (("think", 0),))
        self.assert_log_refused(2, CYCLE[:2] + (("look", 0), ("look", 9)))
        self.assert_log_refused(2, CYCLE[:2] + (("step", 1),))

    def test_refusals(self):
        for program in NO_PROGRAMS:
            self.assert_refused(NoProgram, program, Lit, program, RING, FIRST, FINE)
            self.assert_refused(NoProgram, program, lit_of, program, RING, FIRST, FINE, ())
        for floor in BAD_FLOORS:
            self.assert_refused(BadFloor, floor, Lit, STILL, floor, ((0, 0, 1),), FINE)
            self.assert_refused(BadFloor, floor, lit_of, STILL, floor, ((0, 0, 1),), FINE, ())
        four = Program("marks 4\nstep 0\nmark 0")
        for standing in BAD_STANDINGS:
            self.assert_refused(BadStanding, standing, Lit, four, ("row", 3), standing, FINE)
            self.assert_refused(BadStanding, standing, lit_of, four, ("row", 3), standing, FINE, ())

    def test_marks_that_are_not_of_the_program(self):
        for mark in range(4):
            standing = ((0, 0, 1), (0, mark, 1))
            if mark < 2:
                self.assertEqual(Lit(FORTH, RING, standing, FINE).first, standing)
                self.assertEqual(lit_of(FORTH, RING, standing, FINE, ()).first, standing)
            else:
                self.assert_refused(BadStanding, standing, Lit, FORTH, RING, standing, FINE)
                self.assert_refused(BadStanding, standing, lit_of, FORTH, RING, standing, FINE, ())

    def test_several_wrong_at_once(self):
        program, floor, standing, rule, log = [0], [1], [2], [3], [4]
        for call, behind in ((Lit, ()), (lit_of, (log,))):
            self.assert_refused(NoProgram, program, call, program, floor, standing, rule, *behind)
            self.assert_refused(BadFloor, floor, call, FORTH, floor, standing, rule, *behind)
            self.assert_refused(BadStanding, standing, call, FORTH, RING, standing, rule, *behind)
            self.assert_refused(BadRule, rule, call, FORTH, RING, FIRST, rule, *behind)
        self.assertEqual(refusal(lit_of, FORTH, RING, FIRST, FINE, log), (BadLog, None))


class ErasOfTest(unittest.TestCase):
    def test_one_walker(self):
        lit = Lit(FORTH, RING, FIRST[:1], FINE)
        self.assertEqual([eras_of(going(lit, 0)) for _ in range(15)], [0, 0] + [1] * 6 + [2] * 6 + [3])

    def test_it_grows_with_the_think(self):
        lit = going(Lit(FORTH, RING, FIRST[:1], FINE), 0, 0)
        eras = []
        for word in ("look", "think", "step"):
            lit.do((word, 0))
            eras.append(eras_of(lit))
        self.assertEqual(eras, [0, 1, 1])

    def test_two_walkers(self):
        lit = going(new_lit(), 0, 1, 0, 1, 0)
        self.assertEqual((lit.lamps, eras_of(lit)), (("step", "go"), 0))
        going(lit, 1, 0, 1, 1, 1)
        self.assertEqual((lit.lamps, eras_of(lit)), (("done", "step"), 1))
        # Both of them reset, and wait, and the next era begins.
        going(lit, 1, 0, 1, 0, 1)
        self.assertEqual((lit.lamps, eras_of(lit)), (("wait", "wait"), 1))
        going(lit, 0, 1, 0, 1, 0)
        self.assertEqual((lit.lamps, eras_of(lit)), (("step", "go"), 1))
        going(lit, 1, 0, 1, 1, 1)
        self.assertEqual((lit.lamps, eras_of(lit)), (("done", "step"), 2))

    def test_three_walkers(self):
        lit = Lit(FORTH, RING, FIRST + ((1, 0, 1),), FINE)
        eras = []
        for _ in range(60):
            going(lit, 0, 1, 2)
            eras.append(eras_of(lit))
        self.assertEqual(eras, sorted(eras))
        self.assertGreater(eras[-1], 4)

    def test_other_rules(self):
        # By the rash rule walker 0 steps as often as it likes, the other one not at all.
        lit = going(new_lit(RASH), *[0] * 30)
        self.assertEqual(eras_of(lit), 0)
        going(lit, *[1] * 9)
        self.assertEqual(eras_of(lit), 2)

    def test_a_step_of_0_counts_too(self):
        self.assertEqual(eras_of(going(Lit(STILL, RING, ((0, 0, 1),), FINE), 0, 0, 0)), 1)


class GuaranteesTest(unittest.TestCase):
    def test_everybody_steps_once_in_each_era(self):
        chance = random.Random(73)
        for _ in range(60):
            program, floor, first = random_start(chance)
            model = Model(program, floor, first, FINE)
            lit = Lit(program, floor, first, FINE)
            for deed in random_log(chance, len(first), 150):
                lit.do(deed)
                model.do(*deed)
                self.assertLessEqual(max(model.thoughts) - min(model.thoughts), 1)
                self.assertEqual(eras_of(lit), min(model.thoughts))

    def test_eras_end_for_ever(self):
        chance = random.Random(74)
        for _ in range(40):
            program, floor, first = random_start(chance)
            lit = Lit(program, floor, first, FINE)
            many = len(first)
            for eras in range(1, 5):
                # Somehow everybody does deeds on and on: an era's end is so many deeds off at most.
                for _ in range(60 * many):
                    for walker in chance.sample(range(many), many):
                        lit.do(({"idle": "look", "looked": "think", "thought": "step"}[lit.stages[walker]], walker))
                self.assertGreaterEqual(eras_of(lit), eras)

    def test_lamps_shown_are_a_pattern(self):
        chance = random.Random(75)
        for _ in range(80):
            program, floor, first = random_start(chance)
            lit = Lit(program, floor, first, FINE)
            for deed in random_log(chance, len(first), 120):
                lit.do(deed)
                self.assertTrue(is_pattern(len(first), tuple(sorted(set(lit.lamps)))), lit.lamps)
                self.assertTrue(set(lit.lamps) <= set(LAMPS))

    def test_turned_and_mirrored(self):
        chance = random.Random(76)
        for _ in range(100):
            program, floor, first = random_start(chance)
            rule = chance.choice((FINE, RASH))
            way = random_ways(chance, floor)
            one, other = Lit(program, floor, first, rule), Lit(program, floor, turned(floor, first, *way), rule)
            for deed in random_log(chance, len(first), 60):
                one.do(deed)
                other.do(deed)
                self.assertEqual(other.standing, turned(floor, one.standing, *way))
                self.assertEqual((told_of(other)[1:], eras_of(other)), (told_of(one)[1:], eras_of(one)))

    def test_walkers_numbered_otherwise(self):
        chance = random.Random(77)
        for _ in range(100):
            program, floor, first = random_start(chance)
            rule = chance.choice((FINE, RASH))
            order = chance.sample(range(len(first)), len(first))
            one, other = Lit(program, floor, first, rule), Lit(program, floor, renumbered(first, order), rule)
            for word, walker in random_log(chance, len(first), 60):
                one.do((word, walker))
                other.do((word, order.index(walker)))
                for part in (0, 1, 3, 4):
                    self.assertEqual(told_of(other)[part], renumbered(told_of(one)[part], order))
                self.assertEqual(eras_of(other), eras_of(one))


if __name__ == "__main__":
    unittest.main()

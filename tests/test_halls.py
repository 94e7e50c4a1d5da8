"""Point 7: Halls, and logs done again."""

import random
import unittest

from onestillview.errors import BadDeed, BadFloor, BadLog, BadStanding, BadWalker, Busy, NoLook, NoProgram, NoThought
from onestillview.floors import turned, view
from onestillview.halls import Hall, replayed
from onestillview.lamps import Lit, fine_rule
from onestillview.texts import Program
from tests.helpers import BAD_FLOORS, BAD_STANDINGS, NO_PROGRAMS, STILL
from tests.helpers import Refusals, random_start, random_ways, refusal, renumbered
from tests.models import BAD_DEEDS, CYCLE, NO_WALKERS, Model, random_deeds, random_log, told_of

NEAR = Program("marks 2\nstep pick ahead 0 1\nmark plus mine 1")
RING = ("ring", 5)
FIRST = ((0, 0, 1), (2, 0, 1))


def new_hall():
    """The Hall of the document's example."""
    return Hall(NEAR, RING, FIRST)


class HallCase(Refusals, unittest.TestCase):
    def assert_refused_without_change(self, hall, wrong, value, call, *told):
        """The call raises this error, and the hall is as it was."""
        ahead, before = told_of(hall), hall.copy()
        self.assert_refused(wrong, value, call, *told)
        self.assertEqual(told_of(hall), ahead)
        self.assertEqual(hall, before)


class DeedsTest(HallCase):
    def test_the_example(self):
        hall = new_hall()
        self.assertIsNone(hall.look(0))
        self.assertEqual(hall.held(0), (0, (), ((), (0,), (), ()), ((), (), (0,), ())))
        self.assertIsNone(hall.go(1))
        self.assertIsNone(hall.think(0))
        self.assertEqual(hall.standing, ((0, 1, 1), (3, 1, 1)))
        self.assertEqual((hall.stages, hall.held(0), hall.held(1)), (("thought", "idle"), 1, None))
        self.assertIsNone(hall.do(("step", 0)))
        self.assertEqual(hall.standing, ((1, 1, 1), (3, 1, 1)))
        self.assertEqual(hall.log, (("look", 0), ("look", 1), ("think", 1), ("step", 1), ("think", 0), ("step", 0)))

    def test_at_the_beginning(self):
        for program, floor, first in ((NEAR, RING, FIRST), (STILL, ("row", 1), ((0, 0, -1),) * 5)):
            hall = Hall(program, floor, first)
            self.assertIs(hall.program, program)
            self.assertEqual((hall.floor, hall.first, hall.standing), (floor, first, first))
            self.assertEqual((hall.stages, hall.log, len(hall)), (("idle",) * len(first), (), 0))
            self.assertEqual([hall.held(walker) for walker in range(len(first))], [None] * len(first))

    def test_each_deed_at_each_stage(self):
        hall = new_hall()
        # For each stage of walker 0: the deeds that are refused, and how; then the one that is done.
        stages = (
            ("idle", (("think", NoLook), ("step", NoThought)), "look"),
            ("looked", (("look", Busy), ("step", NoThought)), "think"),
            ("thought", (("look", Busy), ("think", NoLook)), "step"),
        )
        for _ in range(3):
            for stage, refused, right in stages:
                self.assertEqual(hall.stages, (stage, "idle"))
                for word, wrong in refused:
                    self.assert_refused_without_change(hall, wrong, 0, getattr(hall, word), 0)
                    self.assert_refused_without_change(hall, wrong, 0, hall.do, (word, 0))
                if stage != "idle":
                    self.assert_refused_without_change(hall, Busy, 0, hall.go, 0)
                many = len(hall)
                getattr(hall, right)(0)
                self.assertEqual((len(hall), hall.log[-1]), (many + 1, (right, 0)))
        self.assertEqual(hall.log, CYCLE * 3)

    def test_one_stands_in_nobodys_way(self):
        hall = new_hall()
        hall.look(0)
        hall.go(1)
        hall.think(0)
        hall.look(1)
        self.assertEqual(hall.stages, ("thought", "looked"))
        self.assert_refused_without_change(hall, Busy, 1, hall.look, 1)
        self.assert_refused_without_change(hall, NoLook, 0, hall.think, 0)
        self.assert_refused_without_change(hall, NoThought, 1, hall.step, 1)

    def test_the_view_held_is_that_of_the_look(self):
        hall = new_hall()
        hall.look(0)
        seen = view(RING, FIRST, 0)
        for _ in range(4):
            self.assertEqual(hall.held(0), seen)
            hall.go(1)
            self.assertNotEqual(view(RING, hall.standing, 0), seen)
        self.assertEqual(hall.held(0), seen)

    def test_the_thought_is_by_the_view_held(self):
        # Who saw nobody just ahead steps, with mark 2; who saw somebody stays, with mark 1.
        shy = Program("marks 3\nstep same count 1 0\nmark pick count 1 2 1")
        for other, reached, held, behind in (((2, 0, 1), 3, 0, (1, 1, 1)), ((3, 0, -1), 2, 1, (2, 2, 1))):
            hall = Hall(shy, ("row", 8), ((1, 0, 1), other))
            hall.look(0)
            hall.go(1)
            # Meanwhile the other one has left the place just ahead, or come there.
            self.assertEqual(hall.standing[1][0], reached)
            hall.think(0)
            self.assertEqual(hall.held(0), held)
            hall.step(0)
            self.assertEqual(hall.standing[0], behind)

    def test_the_mark_changes_with_the_think_and_the_place_with_the_step(self):
        hall = new_hall()
        standings = []
        for deed in CYCLE:
            hall.do(deed)
            standings.append(hall.standing[0])
        self.assertEqual(standings, [(0, 0, 1), (0, 1, 1), (1, 1, 1)])
        self.assertEqual(hall.standing[1], FIRST[1])

    def test_others_see_the_mark_ahead_of_the_step(self):
        hall = new_hall()
        hall.look(0)
        hall.think(0)
        hall.look(1)
        self.assertEqual(hall.held(1)[2], ((), (), (1,), ()))
        hall.step(0)
        self.assertEqual(hall.held(1)[2], ((), (), (1,), ()))

    def test_steps_that_are_held(self):
        for text, held in (("1", 1), ("0", 0), ("-1", -1), ("99", 1), ("-99", -1)):
            hall = Hall(Program(f"marks 1\nstep {text}\nmark 0"), RING, ((2, 0, -1),))
            hall.look(0)
            hall.think(0)
            self.assertEqual((hall.held(0), type(hall.held(0))), (held, int))
            hall.step(0)
            self.assertEqual(hall.standing, ((2 - held, 0, -1),))

    def test_a_step_of_0_is_a_deed_too(self):
        hall = Hall(STILL, ("row", 3), ((1, 0, 1),))
        hall.look(0)
        hall.think(0)
        self.assertEqual((hall.stages, hall.held(0)), (("thought",), 0))
        self.assert_refused_without_change(hall, Busy, 0, hall.look, 0)
        hall.step(0)
        self.assertEqual((hall.stages, hall.standing, hall.log), (("idle",), ((1, 0, 1),), CYCLE))

    def test_ends_of_rows(self):
        on = Program("marks 1\nstep 1\nmark 0")
        hall = Hall(on, ("row", 2), ((0, 0, 1), (1, 0, -1)))
        for walker in (0, 1, 0, 1, 0):
            hall.go(walker)
        self.assertEqual(hall.standing, ((1, 0, 1), (0, 0, -1)))
        self.assertEqual(len(hall), 15)

    def test_go_is_three_deeds(self):
        hall = new_hall()
        hall.go(1)
        self.assertEqual(hall.log, (("look", 1), ("think", 1), ("step", 1)))
        self.assertEqual((hall.stages, len(hall)), (("idle", "idle"), 3))
        self.assertEqual(hall.standing, (FIRST[0], (3, 1, 1)))

    def test_many_deeds_against_the_model(self):
        chance = random.Random(41)
        for _ in range(250):
            program, floor, first = random_start(chance)
            hall, model = Hall(program, floor, first), Model(program, floor, first)
            for word, walker in random_deeds(chance, len(first), 40):
                found = refusal(hall.do, (word, walker))
                if model.do(word, walker):
                    self.assertIsNone(found)
                else:
                    self.assertEqual(found, ({"look": Busy, "think": NoLook, "step": NoThought}[word], walker))
                self.assertEqual(told_of(hall), model.told())
                self.assertEqual((len(hall), hall.first), (len(model.log), first))

    def test_kinds_of_what_is_told(self):
        hall = new_hall()
        hall.go(0)
        hall.look(1)
        for value in (hall.standing, hall.first, hall.stages, hall.log, hall.log[0], hall.standing[0], hall.held(1)):
            self.assertIs(type(value), tuple)
        self.assertIs(type(len(hall)), int)


class RefusedDeedsTest(HallCase):
    def test_walkers(self):
        for many in (0, 1, 2, 3, 4):
            hall = new_hall()
            for deed in (("look", 0), ("think", 0), ("look", 1), ("step", 0))[:many]:
                hall.do(deed)
            for walker in NO_WALKERS:
                for call in (hall.look, hall.think, hall.step, hall.go, hall.held):
                    self.assert_refused_without_change(hall, BadWalker, walker, call, walker)
                for word in ("look", "think", "step"):
                    self.assert_refused_without_change(hall, BadWalker, walker, hall.do, (word, walker))

    def test_walkers_ahead_of_stages(self):
        hall = new_hall()
        hall.look(1)
        # -1 and True would be walker 1, which is busy, if they were numbers of walkers.
        for walker in (-1, True):
            self.assert_refused_without_change(hall, BadWalker, walker, hall.look, walker)
            self.assert_refused_without_change(hall, BadWalker, walker, hall.go, walker)
            self.assert_refused_without_change(hall, BadWalker, walker, hall.think, walker)
            self.assert_refused_without_change(hall, BadWalker, walker, hall.step, walker)

    def test_forms_of_deeds(self):
        hall = new_hall()
        hall.look(0)
        for deed in BAD_DEEDS:
            self.assert_refused_without_change(hall, BadDeed, deed, hall.do, deed)

    def test_forms_ahead_of_walkers(self):
        hall = new_hall()
        for deed in (("go", 9), ("", None), (None, None), ("look", None, 9)):
            self.assert_refused_without_change(hall, BadDeed, deed, hall.do, deed)
        walker = [9]
        self.assert_refused_without_change(hall, BadWalker, walker, hall.do, ("look", walker))


class HallsAsValuesTest(unittest.TestCase):
    def test_equality(self):
        hall = new_hall()
        self.assertTrue(hall == new_hall())
        self.assertFalse(hall != new_hall())
        others = (
            Hall(Program("marks 2\nstep 0\nmark mine"), RING, FIRST), Hall(NEAR, ("ring", 6), FIRST),
            Hall(NEAR, ("row", 5), FIRST), Hall(NEAR, RING, FIRST[::-1]), Hall(NEAR, RING, FIRST[:1]),
            replayed(NEAR, RING, FIRST, CYCLE),
        )
        for other in others:
            self.assertFalse(hall == other)
            self.assertTrue(hall != other)
        again = Program(NEAR.text)
        self.assertEqual(replayed(again, ("ring", 5), tuple(FIRST), CYCLE), others[-1])

    def test_equality_goes_by_the_log(self):
        # Where they stand is the same, but not what they did.
        program = Program("marks 1\nstep 0\nmark 0")
        logs = [(), CYCLE, CYCLE[:1], CYCLE[:2], (("look", 1),), CYCLE + CYCLE, CYCLE + (("look", 1),)]
        halls = [replayed(program, RING, FIRST, log) for log in logs]
        for one, hall in enumerate(halls):
            for other, another in enumerate(halls):
                self.assertEqual(hall == another, one == other)
        # And what they did the same, but not from the same standing.
        ring, row = Hall(program, RING, FIRST), Hall(program, ("ring", 5), ((1, 0, 1), (2, 0, 1)))
        ring.go(0)
        row.go(0)
        self.assertNotEqual(ring, row)

    def test_equal_nothing_else(self):
        hall = new_hall()
        lit = Lit(NEAR, RING, FIRST, fine_rule())
        for value in (lit, None, 0, True, False, (), FIRST, [], {}, "", NEAR, hall.log, (NEAR, RING, FIRST, ())):
            self.assertIs(hall == value, False)
            self.assertIs(value == hall, False)
            self.assertIs(hall != value, True)

    def test_operators(self):
        hall = new_hall()
        for other in (hall, 1, None, (), "a", NEAR):
            with self.assertRaises(TypeError):
                hall < other
            with self.assertRaises(TypeError):
                hall + other

    def test_a_copy_is_equal_and_by_itself(self):
        log = (("look", 0), ("look", 1), ("think", 1), ("step", 1), ("think", 0), ("step", 0), ("look", 1))
        for many in range(len(log) + 1):
            hall = replayed(NEAR, RING, FIRST, log[:many])
            told = told_of(hall)
            copy = hall.copy()
            self.assertIs(type(copy), Hall)
            self.assertIsNot(copy, hall)
            self.assertEqual(copy, hall)
            self.assertEqual(told_of(copy), told)
            self.assertEqual((copy.program, copy.floor, copy.first, len(copy)), (NEAR, RING, FIRST, many))
            for deed in log[many:]:
                copy.do(deed)
            self.assertEqual(told_of(hall), told)
            self.assertEqual(copy, replayed(NEAR, RING, FIRST, log))
            ended = told_of(copy)
            for deed in log[many:-1]:
                hall.do(deed)
            self.assertEqual(told_of(copy), ended)

    def test_what_was_told_stays(self):
        hall = new_hall()
        told = (hall.standing, hall.stages, hall.log)
        hall.go(0)
        self.assertEqual(told, (FIRST, ("idle", "idle"), ()))

    def test_turned_and_mirrored(self):
        chance = random.Random(42)
        for _ in range(150):
            program, floor, first = random_start(chance)
            log = random_log(chance, len(first), 25)
            way = random_ways(chance, floor)
            one, other = Hall(program, floor, first), Hall(program, floor, turned(floor, first, *way))
            for deed in log:
                one.do(deed)
                other.do(deed)
                self.assertEqual(other.standing, turned(floor, one.standing, *way))
                self.assertEqual(told_of(other)[1:], told_of(one)[1:])

    def test_walkers_numbered_otherwise(self):
        chance = random.Random(43)
        for _ in range(150):
            program, floor, first = random_start(chance)
            order = chance.sample(range(len(first)), len(first))
            one, other = Hall(program, floor, first), Hall(program, floor, renumbered(first, order))
            for word, walker in random_log(chance, len(first), 25):
                one.do((word, walker))
                other.do((word, order.index(walker)))
                self.assertEqual(other.standing, renumbered(one.standing, order))
                self.assertEqual(other.stages, renumbered(one.stages, order))
                self.assertEqual(told_of(other)[3], renumbered(told_of(one)[3], order))


class ReplayedTest(HallCase):
    def test_the_hall_behind_the_deeds(self):
        chance = random.Random(44)
        for _ in range(150):
            program, floor, first = random_start(chance)
            log = random_log(chance, len(first), chance.randint(0, 25))
            hall, model = replayed(program, floor, first, log), Model(program, floor, first)
            for word, walker in log:
                self.assertTrue(model.do(word, walker))
            self.assertEqual(told_of(hall), model.told())
            self.assertIs(type(hall), Hall)
            self.assertEqual(hall.log, log)
            self.assertEqual(replayed(program, floor, first, hall.log), hall)

    def test_it_can_go_on(self):
        hall = replayed(NEAR, RING, FIRST, CYCLE[:2])
        hall.step(0)
        self.assertEqual(hall, replayed(NEAR, RING, FIRST, CYCLE))

    def test_no_deeds(self):
        self.assertEqual(replayed(NEAR, RING, FIRST, ()), new_hall())

    def test_what_is_no_tuple(self):
        for log in (None, True, 0, "", "look", [], [("look", 0)], list(CYCLE), {}, {0: ("look", 0)}, NEAR, new_hall()):
            self.assertEqual(refusal(replayed, NEAR, RING, FIRST, log), (BadLog, None))

    def assert_log_refused(self, number, log):
        """The log is refused by this number."""
        self.assert_numbered(BadLog, number, replayed, NEAR, RING, FIRST, log)

    def test_what_is_no_deed(self):
        for deed in BAD_DEEDS:
            self.assert_log_refused(0, (deed,))
            self.assert_log_refused(1, (("look", 1), deed, ("think", 1)))
            self.assert_log_refused(3, CYCLE + (deed,))

    def test_deeds_of_walkers_that_there_are_not(self):
        for walker in NO_WALKERS:
            for word in ("look", "think", "step"):
                self.assert_log_refused(0, ((word, walker),))
                self.assert_log_refused(3, CYCLE + ((word, walker), ("look", 0)))
        self.assert_log_refused(1, (("look", 1), ("think", True)))
        self.assert_log_refused(1, (("look", 1), ("think", -1)))

    def test_deeds_that_are_refused(self):
        self.assert_log_refused(0, (("think", 0),))
        self.assert_log_refused(0, (("step", 0),))
        self.assert_log_refused(1, (("look", 0), ("look", 0)))
        self.assert_log_refused(1, (("look", 0), ("step", 0)))
        self.assert_log_refused(1, (("look", 0), ("think", 1)))
        self.assert_log_refused(2, CYCLE[:2] + (("think", 0),))
        self.assert_log_refused(2, CYCLE[:2] + (("look", 0),))
        self.assert_log_refused(2, CYCLE[:2] + (("step", 1),))
        self.assert_log_refused(3, CYCLE + (("step", 0),))

    def test_the_first_one_that_is_refused(self):
        self.assert_log_refused(1, (("look", 0), ("look", 0), None, ("look", 7)))
        self.assert_log_refused(1, (("look", 0), None, ("look", 0)))
        self.assert_log_refused(1, (("look", 0), ("look", 7), None))
        log = CYCLE * 50
        self.assert_log_refused(150, log + (("think", 0), None))

    def test_refusals(self):
        for program in NO_PROGRAMS:
            self.assert_refused(NoProgram, program, Hall, program, RING, FIRST)
            self.assert_refused(NoProgram, program, replayed, program, RING, FIRST, ())
        for floor in BAD_FLOORS:
            self.assert_refused(BadFloor, floor, Hall, STILL, floor, ((0, 0, 1),))
            self.assert_refused(BadFloor, floor, replayed, STILL, floor, ((0, 0, 1),), ())
        four = Program("marks 4\nstep 0\nmark 0")
        for standing in BAD_STANDINGS:
            self.assert_refused(BadStanding, standing, Hall, four, ("row", 3), standing)
            self.assert_refused(BadStanding, standing, replayed, four, ("row", 3), standing, ())

    def test_marks_that_are_not_of_the_program(self):
        for marks in (1, 2, 3, 4):
            program = Program(f"marks {marks}\nstep 0\nmark 0")
            for mark in range(4):
                standing = ((0, 0, 1), (0, mark, 1))
                if mark < marks:
                    self.assertEqual(Hall(program, RING, standing).first, standing)
                    self.assertEqual(replayed(program, RING, standing, ()).first, standing)
                else:
                    self.assert_refused(BadStanding, standing, Hall, program, RING, standing)
                    self.assert_refused(BadStanding, standing, replayed, program, RING, standing, ())

    def test_several_wrong_at_once(self):
        program, floor, standing, log = [0], [1], [2], [3]
        self.assert_refused(NoProgram, program, Hall, program, floor, standing)
        self.assert_refused(BadFloor, floor, Hall, NEAR, floor, standing)
        self.assert_refused(BadStanding, standing, Hall, NEAR, RING, standing)
        self.assert_refused(NoProgram, program, replayed, program, floor, standing, log)
        self.assert_refused(BadFloor, floor, replayed, NEAR, floor, standing, log)
        self.assert_refused(BadStanding, standing, replayed, NEAR, RING, standing, log)
        self.assertEqual(refusal(replayed, NEAR, RING, FIRST, log), (BadLog, None))


if __name__ == "__main__":
    unittest.main()

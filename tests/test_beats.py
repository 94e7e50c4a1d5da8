"""Point 6: beats, and runs of them."""

import random
import unittest

from onestillview.beats import beat, run
from onestillview.errors import BadFloor, BadLot, BadLots, BadStanding, NoProgram
from onestillview.floors import turned
from onestillview.texts import Program
from tests.helpers import BAD_FLOORS, BAD_LOTS_OF_THREE, BAD_STANDINGS, FLOORS, NO_PROGRAMS, NO_TUPLES, PROGRAMS, STILL
from tests.helpers import Refusals, random_lots, random_start, random_ways, renumbered, told_beat

NEAR = Program("marks 2\nstep pick less ahead behind 1 -1\nmark same mine 0")
AHEAD = Program("marks 1\nstep 1\nmark 0")
THREE = ((0, 0, 1), (2, 0, 1), (3, 1, -1))
SIX = ("ring", 6)


class BeatTest(Refusals, unittest.TestCase):
    def test_the_example(self):
        self.assertEqual(beat(NEAR, SIX, THREE, (1, 2)), ((0, 0, 1), (1, 1, 1), (4, 0, -1)))

    def test_two_exchange_places(self):
        pair = ((0, 0, 1), (1, 0, -1))
        for floor in (("row", 2), ("ring", 5)):
            self.assertEqual(beat(AHEAD, floor, pair, (0, 1)), ((1, 0, 1), (0, 0, -1)))

    def test_two_exchange_marks(self):
        copy = Program("marks 4\nstep 0\nmark pick marked 1 3 pick marked 1 2 0 2 3")
        pair = ((0, 2, 1), (1, 3, -1))
        self.assertEqual(beat(copy, ("row", 2), pair, (0, 1)), ((0, 3, 1), (1, 2, -1)))
        self.assertEqual(beat(copy, ("row", 2), pair, (0,)), ((0, 3, 1), (1, 3, -1)))

    def test_all_of_a_lot_see_the_standing_ahead_of_the_beat(self):
        # Each one steps if somebody stands just ahead: in a beat the whole column moves, but for its head.
        column = Program("marks 2\nstep count 1\nmark count 1")
        row = ((0, 0, 1), (1, 0, 1), (2, 0, 1))
        self.assertEqual(beat(column, ("row", 8), row, (0, 1, 2)), ((1, 1, 1), (2, 1, 1), (2, 0, 1)))
        # Each one counts the marks that the others have, and changes its own one.
        marks = Program("marks 2\nstep marked 0 1\nmark same mine 0")
        heap = ((3, 1, 1), (3, 0, 1), (3, 1, 1))
        self.assertEqual(beat(marks, ("ring", 7), heap, (0, 1, 2)), ((4, 0, 1), (4, 1, 1), (4, 0, 1)))
        self.assertEqual(beat(marks, ("ring", 7), heap, (0, 2)), ((4, 0, 1), (3, 0, 1), (4, 0, 1)))

    def test_who_is_not_in_the_lot_stands_as_it_did(self):
        five = tuple((place, 0, 1) for place in range(5))
        for lot in ((0,), (4,), (1, 3), (0, 2, 4), (0, 1, 2, 3, 4)):
            behind = beat(AHEAD, ("ring", 8), five, lot)
            self.assertEqual(behind, tuple((place + (place in lot), 0, 1) for place in range(5)))

    def test_ends_of_rows(self):
        both = ((0, 0, -1), (2, 0, 1))
        self.assertEqual(beat(AHEAD, ("row", 3), both, (0, 1)), both)
        self.assertEqual(beat(AHEAD, ("ring", 3), both, (0, 1)), ((2, 0, -1), (0, 0, 1)))
        back = Program("marks 2\nstep -1\nmark 1")
        self.assertEqual(beat(back, ("row", 3), ((0, 0, 1), (2, 0, -1)), (0, 1)), ((0, 1, 1), (2, 1, -1)))
        self.assertEqual(beat(back, ("row", 3), both, (0, 1)), ((1, 1, -1), (1, 1, 1)))
        self.assertEqual(beat(AHEAD, ("row", 1), ((0, 0, 1),), (0,)), ((0, 0, 1),))

    def test_senses_stay(self):
        for sense in (1, -1):
            self.assertEqual(beat(AHEAD, ("ring", 4), ((1, 0, sense),), (0,)), ((1 + sense, 0, sense),))

    def test_many_beats_told_walker_by_walker(self):
        chance = random.Random(21)
        for _ in range(1500):
            program, floor, standing = random_start(chance)
            for lot in random_lots(chance, len(standing), 3):
                behind = beat(program, floor, standing, lot)
                self.assertEqual(behind, told_beat(program, floor, standing, lot))
                self.assertIs(type(behind), tuple)

    def test_turned_and_mirrored(self):
        chance = random.Random(22)
        for _ in range(400):
            program, floor, standing = random_start(chance)
            way = random_ways(chance, floor)
            for lot in random_lots(chance, len(standing), 2):
                behind = beat(program, floor, turned(floor, standing, *way), lot)
                self.assertEqual(behind, turned(floor, beat(program, floor, standing, lot), *way))

    def test_walkers_numbered_otherwise(self):
        chance = random.Random(23)
        for _ in range(400):
            program, floor, standing = random_start(chance)
            order = chance.sample(range(len(standing)), len(standing))
            for lot in random_lots(chance, len(standing), 2):
                other = tuple(sorted(order.index(walker) for walker in lot))
                behind = beat(program, floor, renumbered(standing, order), other)
                self.assertEqual(behind, renumbered(beat(program, floor, standing, lot), order))


class RunTest(unittest.TestCase):
    def test_the_example(self):
        behind = (((5, 1, 1), (2, 0, 1), (3, 1, -1)), ((5, 1, 1), (1, 1, 1), (4, 0, -1)))
        self.assertEqual(run(NEAR, SIX, THREE, ((0,), (1, 2))), (THREE,) + behind)

    def test_it_begins_with_standing(self):
        self.assertEqual(run(NEAR, SIX, THREE, ()), (THREE,))
        self.assertEqual(run(NEAR, SIX, THREE, ((1, 2),)), (THREE, beat(NEAR, SIX, THREE, (1, 2))))

    def test_beat_by_beat(self):
        chance = random.Random(24)
        for _ in range(400):
            program, floor, standing = random_start(chance)
            lots = random_lots(chance, len(standing), 8)
            expected = [standing]
            for lot in lots:
                expected.append(told_beat(program, floor, expected[-1], lot))
            standings = run(program, floor, standing, lots)
            self.assertIs(type(standings), tuple)
            self.assertEqual(standings, tuple(expected))

    def test_lots_of_any_kind(self):
        one = ((0, 0, 1), (0, 0, 1))
        lots = ((0,), (0,), (0, 1), (0,))
        self.assertEqual([standing[0][0] for standing in run(AHEAD, ("ring", 3), one, lots)], [0, 1, 2, 0, 1])

    def test_turned_mirrored_and_numbered_otherwise(self):
        chance = random.Random(25)
        for _ in range(300):
            program, floor, standing = random_start(chance)
            lots = random_lots(chance, len(standing), 5)
            standings = run(program, floor, standing, lots)
            way = random_ways(chance, floor)
            other = run(program, floor, turned(floor, standing, *way), lots)
            self.assertEqual(other, tuple(turned(floor, each, *way) for each in standings))
            order = chance.sample(range(len(standing)), len(standing))
            others = tuple(tuple(sorted(order.index(walker) for walker in lot)) for lot in lots)
            other = run(program, floor, renumbered(standing, order), others)
            self.assertEqual(other, tuple(renumbered(each, order) for each in standings))


class RefusalsTest(Refusals, unittest.TestCase):
    def test_programs(self):
        for program in NO_PROGRAMS:
            self.assert_refused(NoProgram, program, beat, program, SIX, THREE, (0,))
            self.assert_refused(NoProgram, program, run, program, SIX, THREE, ())

    def test_floors(self):
        for floor in BAD_FLOORS:
            self.assert_refused(BadFloor, floor, beat, STILL, floor, ((0, 0, 1),), (0,))
            self.assert_refused(BadFloor, floor, run, STILL, floor, ((0, 0, 1),), ())

    def test_standings(self):
        program = Program("marks 4\nstep 0\nmark 0")
        for standing in BAD_STANDINGS:
            self.assert_refused(BadStanding, standing, beat, program, ("row", 3), standing, (0,))
            self.assert_refused(BadStanding, standing, run, program, ("row", 3), standing, ())

    def test_marks_that_are_not_of_the_program(self):
        for marks in (1, 2, 3, 4):
            program = Program(f"marks {marks}\nstep 0\nmark 0")
            for mark in range(4):
                for others in ((), ((1, 0, 1), (0, 0, -1))):
                    for standing in (((0, mark, 1),) + others, others + ((0, mark, 1),)):
                        if mark < marks:
                            self.assertEqual(run(program, ("row", 3), standing, ()), (standing,))
                            self.assertEqual(len(beat(program, ("row", 3), standing, (0,))), len(standing))
                        else:
                            self.assert_refused(BadStanding, standing, run, program, ("row", 3), standing, ())
                            self.assert_refused(BadStanding, standing, beat, program, ("row", 3), standing, (0,))

    def test_lots(self):
        for lot in BAD_LOTS_OF_THREE:
            self.assert_refused(BadLot, lot, beat, NEAR, SIX, THREE, lot)
            for lots in ((lot,), ((0,), lot), (lot, (0,)), ((0, 1, 2), (1,), lot)):
                self.assert_refused(BadLots, lots, run, NEAR, SIX, THREE, lots)
        for lots in NO_TUPLES + ((0,), (0, 1), [(0,)], [], "", ((0,), 1), ([0],)):
            self.assert_refused(BadLots, lots, run, NEAR, SIX, THREE, lots)

    def test_walkers_that_there_are_not(self):
        for many in range(1, 6):
            standing = THREE[:1] * many
            self.assertEqual(beat(NEAR, SIX, standing, (many - 1,))[:-1], standing[:-1])
            lot, lots = (many,), ((many - 1, many),)
            self.assert_refused(BadLot, lot, beat, NEAR, SIX, standing, lot)
            self.assert_refused(BadLots, lots, run, NEAR, SIX, standing, lots)

    def test_several_wrong_at_once(self):
        for call, wrong in ((beat, BadLot), (run, BadLots)):
            lots, standing, floor, program = [3], [2], [1], [0]
            self.assert_refused(NoProgram, program, call, program, floor, standing, lots)
            self.assert_refused(BadFloor, floor, call, STILL, floor, standing, lots)
            self.assert_refused(BadStanding, standing, call, STILL, SIX, standing, lots)
            marked = ((0, 1, 1),)
            self.assert_refused(BadStanding, marked, call, STILL, SIX, marked, lots)
            self.assert_refused(wrong, lots, call, STILL, SIX, ((0, 0, 1),), lots)

    def test_arguments_stay_as_they_are(self):
        for program in PROGRAMS:
            standing = tuple((0, 0, 1) for _ in range(3))
            beat(program, FLOORS[0], standing, (0, 1))
            run(program, FLOORS[0], standing, ((0, 1), (2,)))
            self.assertEqual(standing, ((0, 0, 1),) * 3)


if __name__ == "__main__":
    unittest.main()

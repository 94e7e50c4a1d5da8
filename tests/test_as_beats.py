"""Point 7: Halls read as beats."""

import random
import unittest
from itertools import combinations

from onestillview.beats import is_kind, run
from onestillview.errors import Pending
from onestillview.halls import Hall, as_beats, replayed
from onestillview.texts import Program
from tests.helpers import FLOORS, PROGRAMS, STILL, random_standing, random_start, refusal
from tests.models import random_log

NEAR = Program("marks 2\nstep pick ahead 0 1\nmark plus mine 1")
RING = ("ring", 5)
FIRST = ((0, 0, 1), (2, 0, 1))
WORDS = {"l": "look", "t": "think", "s": "step"}


def log_of(text):
    """A log, written by the first letter of each word and the walker: l0 t0 s0."""
    return tuple((WORDS[sign[0]], int(sign[1])) for sign in text.split())


def gone(*walkers):
    """The deeds of these walkers, who go one behind another."""
    return " ".join(f"l{walker} t{walker} s{walker}" for walker in walkers)


def hall_of(log, many):
    """A Hall in which nothing stirs, behind this log."""
    return replayed(STILL, ("row", 1), ((0, 0, 1),) * many, log)


def told_cycles(log):
    """Each cycle: the walker, and the numbers of its look, think and step."""
    found = []
    for walker in {walker for _, walker in log}:
        numbers = [number for number, deed in enumerate(log) if deed[1] == walker]
        found.extend((walker, *numbers[at:at + 3]) for at in range(0, len(numbers), 3))
    return found


def told_beats(log):
    """The LOTS as point 7 tells them, by all twos and threes of cycles."""
    cycles = told_cycles(log)

    def ahead(one, other):
        return one[3] < other[1]

    def beside(one, other):
        return one[1] < other[2] and other[1] < one[2]

    for one, other in combinations(cycles, 2):
        if not (ahead(one, other) or ahead(other, one) or beside(one, other)):
            return None
    for third in cycles:
        for one, other in combinations([cycle for cycle in cycles if beside(cycle, third) and cycle != third], 2):
            if not beside(one, other):
                return None
    rows = {tuple(sorted(other for other in cycles if other == one or beside(one, other))) for one in cycles}
    inorder = sorted(rows, key=lambda row: sum(ahead(other[0], row[0]) for other in rows))
    return tuple(tuple(sorted(cycle[0] for cycle in row)) for row in inorder)


def all_logs(many, cycles):
    """Each log behind which all are idle, of so many walkers and cycles at most."""
    def behind(log, stages, begun):
        if not any(stages):
            yield log
        for walker in range(many):
            if stages[walker] or begun < cycles:
                then = list(stages)
                then[walker] = (stages[walker] + 1) % 3
                deed = (("look", "think", "step")[stages[walker]], walker)
                yield from behind(log + (deed,), then, begun + (stages[walker] == 0))

    return behind((), [0] * many, 0)


class AsBeatsTest(unittest.TestCase):
    def assert_beats(self, expected, text, many=3):
        """The log that is written so is read as these LOTS."""
        log = log_of(text)
        self.assertEqual(told_beats(log), expected)
        self.assertEqual(as_beats(hall_of(log, many)), expected)

    def test_the_examples(self):
        log = log_of("l0 l1 t1 s1 t0 s0")
        hall = replayed(NEAR, RING, FIRST, log)
        self.assertEqual(as_beats(hall), ((0, 1),))
        self.assertEqual(run(NEAR, RING, FIRST, ((0, 1),))[-1], hall.standing)
        row = log_of("l0 t0 s0") + log[:4] + log_of("l1 t1 s1")
        self.assertEqual(as_beats(replayed(NEAR, RING, FIRST, row[:3] + log)), ((0,), (0, 1)))
        self.assertIsNone(as_beats(replayed(NEAR, RING, FIRST, row + log_of("t0 s0"))))

    def test_no_deeds(self):
        for many in range(1, 6):
            self.assertEqual(as_beats(hall_of((), many)), ())

    def test_one_behind_another(self):
        self.assert_beats(((0,),), gone(0))
        self.assert_beats(((0,), (0,)), gone(0, 0))
        self.assert_beats(((1,), (0,)), gone(1, 0))
        self.assert_beats(((2,), (0,), (2,), (1,), (1,)), gone(2, 0, 2, 1, 1))

    def test_beside_one_another(self):
        for text in ("l0 l1 t0 t1 s0 s1", "l1 l0 t1 s1 t0 s0", "l0 l1 t0 s0 t1 s1", "l1 l0 t0 t1 s0 s1"):
            self.assert_beats(((0, 1),), text)
        self.assert_beats(((0, 1, 2),), "l2 l0 l1 t1 s1 t0 t2 s2 s0")
        self.assert_beats(((0, 1, 2, 3, 4),), "l4 l3 l2 l1 l0 t0 s0 t1 s1 t2 s2 t3 s3 t4 s4", 5)

    def test_lots_one_behind_another(self):
        both = "l0 l1 t0 t1 s0 s1"
        self.assert_beats(((0, 1), (0, 1)), f"{both} {both}")
        self.assert_beats(((2,), (0, 1), (2,)), f"{gone(2)} {both} {gone(2)}")
        self.assert_beats(((0, 1), (1, 2), (0,)), f"{both} l2 l1 t2 t1 s2 s1 {gone(0)}")

    def test_torn(self):
        # The one looks when the other has thought, but not stepped.
        self.assert_beats(None, "l0 t0 l1 s0 t1 s1")
        self.assert_beats(None, "l0 t0 l1 t1 s1 s0")
        self.assert_beats(None, "l1 t1 l0 s1 t0 s0")
        self.assert_beats(None, f"{gone(2, 0)} l0 t0 l1 s0 t1 s1 {gone(1)}")

    def test_who_goes_twice_while_another_one_thinks(self):
        self.assert_beats(None, f"l0 {gone(1, 1)} t0 s0")
        self.assert_beats(None, f"l0 {gone(1, 2)} t0 s0")
        self.assert_beats(None, f"{gone(1)} l0 {gone(1, 1)} t0 s0 {gone(0)}")

    def test_two_beside_a_third_one_alone(self):
        # 1 and 2 are each beside 0, but 1 is ahead of 2.
        self.assert_beats(None, "l0 l1 t1 s1 l2 t0 s0 t2 s2")
        self.assert_beats(None, "l1 l0 t1 s1 l2 t2 s2 t0 s0")
        # The same, 2 being torn from 1 moreover.
        self.assert_beats(None, "l1 l0 t1 l2 s1 t2 s2 t0 s0")

    def test_a_step_ahead_of_a_look_just_so(self):
        self.assert_beats(((0,), (1,)), "l0 t0 s0 l1 t1 s1")
        self.assert_beats(None, "l0 t0 l1 s0 t1 s1")
        self.assert_beats(((0, 1),), "l0 l1 t0 s0 t1 s1")

    def test_pending(self):
        texts = ("l0", "l0 t0", f"{gone(1)} l2", f"l0 {gone(1, 1)}", f"{gone(0, 1, 2)} l0 t0", "l0 l1 t0 s0 t1")
        for text in texts:
            hall = hall_of(log_of(text), 3)
            self.assertEqual(refusal(as_beats, hall), (Pending, None))
            self.assertEqual(hall, hall_of(log_of(text), 3))
        self.assertEqual(refusal(as_beats, hall=hall_of(log_of("l0 t0 l1 s0 t1"), 2)), (Pending, None))

    def test_all_short_logs_of_two(self):
        counts = {}
        for log in all_logs(2, 4):
            expected = told_beats(log)
            counts[expected is None] = counts.get(expected is None, 0) + 1
            self.assertEqual(as_beats(hall_of(log, 2)), expected, log)
        self.assertGreater(min(counts[True], counts[False]), 100)

    def test_all_logs_of_three_who_go_once(self):
        for log in all_logs(3, 3):
            self.assertEqual(as_beats(hall_of(log, 3)), told_beats(log), log)

    def test_longer_logs(self):
        chance = random.Random(51)
        for _ in range(500):
            many = chance.randint(1, 5)
            log = ()
            for _ in range(chance.randint(1, 4)):
                # Of single walkers' deeds most logs are torn: beats, with their deeds shuffled, aren't.
                log += random_log(chance, many, 2, False) if chance.random() < 0.1 else shuffled_beat(chance, many)
            expected = told_beats(log)
            self.assertEqual(as_beats(hall_of(log, many)), expected)
            if expected is not None:
                self.assertTrue(is_kind("some", many, expected))

    def test_it_goes_by_the_log_alone(self):
        chance = random.Random(52)
        for _ in range(200):
            many = chance.randint(1, 4)
            log = shuffled_beat(chance, many) + random_log(chance, many, 3, False)
            told = as_beats(hall_of(log, many))
            for program in PROGRAMS:
                floor = chance.choice(FLOORS)
                first = random_standing(chance, floor, program.marks)
                first = (first * many)[:many]
                self.assertEqual(as_beats(replayed(program, floor, first, log)), told)

    def test_run_by_the_lots_leads_to_the_standing(self):
        chance = random.Random(53)
        told = 0
        for _ in range(800):
            program, floor, first = random_start(chance)
            log = shuffled_beat(chance, len(first)) + shuffled_beat(chance, len(first))
            if chance.random() < 0.4:
                log += random_log(chance, len(first), 4, False)
            hall = replayed(program, floor, first, log)
            lots = as_beats(hall)
            if lots is not None:
                told += 1
                self.assertEqual(run(program, floor, first, lots)[-1], hall.standing)
        self.assertGreater(told, 400)

    def test_the_hall_stays_as_it_is(self):
        hall = Hall(NEAR, RING, FIRST)
        hall.go(0)
        hall.go(1)
        before = hall.copy()
        self.assertEqual([as_beats(hall), as_beats(hall=hall)], [((0,), (1,))] * 2)
        self.assertEqual(hall, before)


def shuffled_beat(chance, many):
    """The deeds of some lot of so many walkers, all of whom look ahead of all thinks."""
    lot = chance.sample(range(many), chance.randint(1, many))
    looks = [("look", walker) for walker in lot]
    behind, left = [], {walker: ["think", "step"] for walker in lot}
    while left:
        walker = chance.choice(sorted(left))
        behind.append((left[walker].pop(0), walker))
        if not left[walker]:
            del left[walker]
    return tuple(looks + behind)


if __name__ == "__main__":
    unittest.main()

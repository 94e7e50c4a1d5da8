"""Point 12: where walkers without lamps go astray."""

import unittest

from onestillview.errors import BadFloor, BadMany, BadMost, BadStanding, NoProgram, Wide
from onestillview.halls import as_beats, replayed
from onestillview.texts import Program
from onestillview.worlds import astray, come_to, shows_astray
from tests.helpers import BAD_FLOORS, BAD_STANDINGS, NO_PROGRAMS, NO_TUPLES, Refusals, refusal
from tests.searches import searched_standings
from tests.worlds import BAD_MOST, PAIR, SWAP, TWO, led_to, some_starts


class AstrayTest(Refusals, unittest.TestCase):
    def test_the_examples(self):
        log = astray(SWAP, TWO, PAIR, 8)
        self.assertIs(shows_astray(SWAP, TWO, PAIR, 8, log), True)
        self.assertNotIn(replayed(SWAP, TWO, PAIR, log).standing, come_to("some", SWAP, TWO, PAIR, 6))

    def test_one_and_two_walkers(self):
        told = [0, 0]
        for program, floor, first, _ in some_starts(161, 80, walkers=2):
            own, some = [searched_standings(kind, program, floor, first) for kind in ("own", "some")]
            log = astray(program, floor, first, 20000)
            self.assertEqual(log is None, own <= some)
            if log is not None:
                self.assertIn(led_to("own", program, floor, first, log), own - some)
                self.assertIsNone(as_beats(replayed(program, floor, first, log)))
            self.assertIs(shows_astray(program, floor, first, 20000, log), True)
            self.assertIs(shows_astray(program, floor, first, 20000, None), log is None)
            self.assertIs(shows_astray(program, floor, first, 20000, ()), False)
            told[log is None] += 1
        self.assertGreater(min(told), 5)

    def test_one_walker_never_goes_astray(self):
        for program, floor, first, _ in some_starts(162, 20, walkers=1):
            self.assertIsNone(astray(program, floor, first, 20000))

    def test_values_bent_a_little(self):
        log = astray(SWAP, TWO, PAIR, 8)
        some = come_to("some", SWAP, TWO, PAIR, 8)
        for at in range(len(log) + 1):
            for value in (log[:at], log[:at] + log[at + 1:], log[:at] + log[at:at + 1] + log[at:]):
                reached = led_to("own", SWAP, TWO, PAIR, value)
                is_right = reached is not None and reached not in some
                self.assertIs(shows_astray(SWAP, TWO, PAIR, 8, value), is_right)
        for value in NO_TUPLES + (list(log), (log,), log + (None,), (None,), ("look", 0), log + (("look", 0),)):
            self.assertIs(shows_astray(SWAP, TWO, PAIR, 8, value), False, value)

    def test_wide(self):
        self.assertEqual(len(come_to("own", SWAP, TWO, PAIR, 8)), 8)
        for most in (1, 5, 6, 7):
            self.assertEqual(refusal(astray, SWAP, TWO, PAIR, most), (Wide, most))
            self.assertEqual(refusal(shows_astray, SWAP, TWO, PAIR, most, None), (Wide, most))

    def test_refusals(self):
        for call, behind in ((astray, ()), (shows_astray, (None,))):
            for program in NO_PROGRAMS:
                self.assert_refused(NoProgram, program, call, program, TWO, PAIR, 9, *behind)
            for floor in BAD_FLOORS:
                self.assert_refused(BadFloor, floor, call, SWAP, floor, PAIR, 9, *behind)
            four = Program("marks 4\nstep 0\nmark 0")
            for standing in BAD_STANDINGS:
                self.assert_refused(BadStanding, standing, call, four, ("row", 3), standing, 9, *behind)
            for many in (3, 4, 5):
                self.assert_numbered(BadMany, many, call, SWAP, TWO, ((0, 0, 1),) * many, 9, *behind)
                self.assert_numbered(BadMany, many, call, SWAP, TWO, ((0, 0, 1),) * many, None, *behind)
            for most in BAD_MOST:
                self.assert_refused(BadMost, most, call, SWAP, TWO, PAIR, most, *behind)
            wrong = [0], [1], [2], [3]
            self.assert_refused(NoProgram, wrong[0], call, *wrong, *behind)
            self.assert_refused(BadFloor, wrong[1], call, SWAP, *wrong[1:], *behind)
            self.assert_refused(BadStanding, wrong[2], call, SWAP, TWO, *wrong[2:], *behind)


if __name__ == "__main__":
    unittest.main()

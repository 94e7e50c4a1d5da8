"""Point 12: which claims hold in a world."""

import random
import unittest
from itertools import product

from onestillview.texts import Program
from onestillview.worlds import come_to, holds, shows_holds
from tests.claims import random_claim, told_meets
from tests.helpers import NO_TUPLES
from tests.searches import searched_standings
from tests.worlds import APART, FAR, KINDS, NEAR, PAIR, ROW, TOGETHER, TWO, led_to, some_starts

STILL = Program("marks 1\nstep 0\nmark 0")
# Both look ahead of the other one's step: both go to the place between them.
AT_ONCE = tuple((word, walker) for word in ("look", "think", "step") for walker in (0, 1))
# A claim that holds of each standing of two walkers without marks.
ALWAYS = ("marked", 0, 2, 2)


def shows_apart(kind, value):
    """Whether the value is shown for the claim that the two walkers of NEAR never meet."""
    return shows_holds(kind, NEAR, ROW, FAR, APART, 9, value)


def breaks_apart(kind, how):
    """Whether this leads the two walkers of NEAR to one place."""
    reached = led_to(kind, NEAR, ROW, FAR, how)
    return reached is not None and reached[0][0] == reached[1][0]


class HoldsTest(unittest.TestCase):
    def test_the_examples(self):
        never = ("not", ("both", APART, ("not", ("spread",))))
        for claim in (never, ("marked", 0, 2, 5)):
            self.assertEqual(holds("eras", NEAR, ROW, FAR, claim, 9), ("holds", 4))
        rows = (((0, 1),), ((0,), (0,)), ((0,),))
        self.assertEqual([shows_apart("some", ("breaks", lots)) for lots in rows], [True, True, False])

    def test_drawn_claims(self):
        chance = random.Random(151)
        told = {(kind, word): 0 for kind in KINDS for word in ("holds", "breaks")}
        for program, floor, first, kind in some_starts(152, 150):
            standings = searched_standings(kind, program, floor, first)
            for _ in range(3):
                claim = random_claim(chance)
                breaking = [standing for standing in standings if not told_meets(floor, standing, claim)]
                found = holds(kind, program, floor, first, claim, 300)
                self.assertIs(type(found), tuple)
                if not breaking:
                    self.assertEqual(found, ("holds", len(standings)))
                else:
                    self.assertEqual((len(found), found[0]), (2, "breaks"))
                    self.assertIn(led_to(kind, program, floor, first, found[1]), breaking)
                self.assertIs(shows_holds(kind, program, floor, first, claim, 300, found), True)
                told[kind, found[0]] += 1
        self.assertGreater(min(told.values()), 10)

    def test_three_walkers_with_lamps(self):
        first = ((0, 0, 1), (2, 0, 1), (2, 0, -1))
        for claim in (APART, ("not", TOGETHER), ("marked", 0, 3, 3)):
            found = holds("lit", NEAR, ROW, first, claim, 99)
            standings = searched_standings("lit", NEAR, ROW, first)
            breaking = [standing for standing in standings if not told_meets(ROW, standing, claim)]
            if breaking:
                self.assertIn(led_to("lit", NEAR, ROW, first, found[1]), breaking)
            else:
                self.assertEqual(found, ("holds", len(standings)))

    def test_the_beginning_breaks_it(self):
        for kind in KINDS:
            self.assertIs(shows_holds(kind, NEAR, ROW, FAR, TOGETHER, 9, ("breaks", ())), True)
            word, how = holds(kind, NEAR, ROW, FAR, TOGETHER, 9)
            self.assertEqual(word, "breaks")
            self.assertFalse(told_meets(ROW, led_to(kind, NEAR, ROW, FAR, how), TOGETHER))

    def test_equal_calls(self):
        for kind in KINDS:
            found = [holds(kind, NEAR, ROW, FAR, APART, 9) for _ in range(2)]
            self.assertEqual(found[0], found[1])


class ShowsHoldsTest(unittest.TestCase):
    def test_counts(self):
        for kind in KINDS:
            many = len(come_to(kind, NEAR, ROW, FAR, 9))
            for value in range(-1, 10):
                told = ("holds", value)
                self.assertIs(shows_holds(kind, NEAR, ROW, FAR, ALWAYS, 9, told), value == many)
                self.assertIs(shows_apart(kind, told), False)
            for value in (["holds", many], ("holds",), ("holds", many, many), ("holds", None), ("Holds", many), many,
                          ("holds", str(many)), ("holds", (many,)), ("breaks", many), (many, "holds"), "holds", None):
                self.assertIs(shows_holds(kind, NEAR, ROW, FAR, ALWAYS, 9, value), False, value)

    def test_a_bool_is_no_count(self):
        for kind in KINDS:
            self.assertIs(shows_holds(kind, STILL, TWO, PAIR, APART, 1, ("holds", 1)), True)
            self.assertIs(shows_holds(kind, STILL, TWO, PAIR, APART, 1, ("holds", True)), False)

    def test_all_short_lots(self):
        for kind in ("full", "one", "some", "eras"):
            right = 0
            for length in range(4):
                for lots in product(((0,), (0, 1), (1,)), repeat=length):
                    found = shows_apart(kind, ("breaks", lots))
                    self.assertIs(found, breaks_apart(kind, lots), (kind, lots))
                    right += found
            self.assertGreater(right, 1)

    def test_what_is_no_lots(self):
        values = NO_TUPLES + (
            ((),), ((2,),), ((-1,),), [(0, 1)], ([0, 1],), (0, 1), ((1, 0),), ((0, 0),), ((False, 1),), ((0, True),),
            ((0, 1), None), ((0, 1), ()), (("look", 0),), AT_ONCE,
        )
        for kind in ("full", "one", "some", "eras"):
            for value in values:
                self.assertIs(shows_apart(kind, ("breaks", value)), False, (kind, value))

    def test_logs_bent_a_little(self):
        for kind in ("own", "lit"):
            word, log = holds(kind, NEAR, ROW, FAR, APART, 9)
            self.assertEqual(word, "breaks")
            for at in range(len(log) + 1):
                for value in (log[:at], log[:at] + log[at + 1:], log[:at] + log[at:at + 1] + log[at:], log[at:]):
                    self.assertIs(shows_apart(kind, ("breaks", value)), breaks_apart(kind, value), (kind, value))
            for value in NO_TUPLES + (list(log), (log,), log + (None,), log + (("look", 0),), ((0, 1),), (None,)):
                self.assertIs(shows_apart(kind, ("breaks", value)), False, value)
            values = (["breaks", log], ("breaks", log, ()), ("holds", log), ("breaks",), (log,), log, ("break", log))
            for value in values:
                self.assertIs(shows_apart(kind, value), False)

    def test_who_holds_something_is_not_idle(self):
        self.assertIs(shows_holds("own", NEAR, ROW, FAR, TOGETHER, 9, ("breaks", (("look", 0),))), False)
        self.assertIs(shows_holds("lit", NEAR, ROW, FAR, TOGETHER, 9, ("breaks", (("look", 0), ("think", 0)))), False)
        for kind in ("own", "lit"):
            log = (("look", 1), ("think", 1), ("step", 1))
            self.assertIs(shows_holds(kind, NEAR, ROW, FAR, TOGETHER, 9, ("breaks", log)), True)

    def test_each_world_has_its_own_logs(self):
        self.assertIs(shows_apart("own", ("breaks", AT_ONCE)), True)
        self.assertIs(shows_apart("lit", ("breaks", AT_ONCE)), False)
        log = holds("lit", NEAR, ROW, FAR, APART, 9)[1]
        self.assertIs(shows_apart("lit", ("breaks", log)), True)
        self.assertIs(shows_apart("own", ("breaks", log)), breaks_apart("own", log))

    def test_nothing_breaks_what_holds(self):
        for kind, how in (("some", ((0, 1),)), ("own", AT_ONCE), ("own", ()), ("eras", ()), ("lit", ()), ("full", ())):
            self.assertIs(shows_holds(kind, NEAR, ROW, FAR, ALWAYS, 9, ("breaks", how)), False)


if __name__ == "__main__":
    unittest.main()

"""Point 12: claims, and where they hold."""

import random
import unittest

from onestillview.errors import BadClaim, BadFloor, BadStanding
from onestillview.floors import turned
from onestillview.worlds import meets
from tests.claims import BAD_CLAIMS, random_claim, told_meets, told_spread
from tests.helpers import BAD_FLOORS, BAD_STANDINGS, FLOORS, RINGS, ROWS
from tests.helpers import Refusals, random_standing, random_ways, renumbered


def placed(*places):
    """A standing at these places."""
    return tuple((place, 0, 1) for place in places)


def nested(deep, claim=("apart",)):
    """A claim so deep."""
    for _ in range(deep - 1):
        claim = ("not", claim)
    return claim


class MeetsTest(Refusals, unittest.TestCase):
    def test_the_examples(self):
        standing = ((0, 1, 1), (2, 0, -1), (4, 1, 1))
        claims = (("spread",), ("marked", 1, 0, 1), ("together",))
        self.assertEqual([meets(("ring", 6), standing, claim) for claim in claims], [True, False, False])

    def test_apart_and_together(self):
        for floor in (("ring", 5), ("row", 5)):
            for standing, apart, together in (
                (placed(0), True, True), (placed(0, 1), True, False), (placed(3, 3), False, True),
                (placed(0, 4, 2), True, False), (placed(0, 4, 0), False, False), (placed(4, 4, 4, 4, 4), False, True),
                (placed(0, 1, 2, 3, 4), True, False), (((1, 0, 1), (1, 3, -1)), False, True),
            ):
                self.assertIs(meets(floor, standing, ("apart",)), apart)
                self.assertIs(meets(floor, standing, ("together",)), together)

    def test_marked(self):
        standing = ((0, 1, 1), (0, 1, -1), (2, 3, 1), (4, 1, 1))
        for mark, many in enumerate((0, 3, 0, 1)):
            for low in range(6):
                for high in range(6):
                    for floor in (("ring", 5), ("row", 8)):
                        self.assertIs(meets(floor, standing, ("marked", mark, low, high)), low <= many <= high)

    def test_spread_on_rings(self):
        ring = ("ring", 8)
        for places, told in (
            ((0,), True), ((7,), True), ((0, 4), True), ((0, 3), False), ((1, 5), True), ((0, 0), False),
            ((0, 3, 6), True), ((0, 3, 5), True), ((6, 3, 0), True), ((0, 2, 5), True), ((0, 2, 4), False),
            ((7, 2, 4), True), ((0, 2, 4, 6), True), ((0, 2, 4, 5), False), ((0, 1, 3, 5), False),
            ((1, 2, 4, 5, 7), True),
            ((0, 1, 2, 4, 6), True), ((0, 1, 2, 3, 4), False), ((0, 2, 4, 6, 6), False),
        ):
            self.assertIs(meets(ring, placed(*places), ("spread",)), told, places)
        # Of two there are two gaps, one each way.
        self.assertEqual([meets(("ring", 5), placed(0, place), ("spread",)) for place in range(5)],
                         [False, False, True, True, False])
        self.assertEqual([meets(("ring", 3), placed(0, place), ("spread",)) for place in range(3)], [False, True, True])

    def test_spread_on_rows(self):
        row = ("row", 8)
        for places, told in (
            ((0,), True), ((0, 7), True), ((3, 4), True), ((3, 3), False), ((0, 1, 2), True), ((0, 1, 3), True),
            ((0, 1, 4), False), ((3, 1, 0), True), ((4, 0, 1), False), ((0, 3, 7), True), ((0, 2, 7), False),
            ((0, 2, 4, 7), True), ((0, 1, 3, 6), False), ((1, 2, 3, 4, 5), True), ((0, 2, 4, 5, 7), True),
            ((0, 2, 4, 4, 7), False),
        ):
            self.assertIs(meets(row, placed(*places), ("spread",)), told, places)
        # Gaps up to the ends of a row don't count.
        self.assertIs(meets(row, placed(6, 7), ("spread",)), True)

    def test_one_alone_is_spread(self):
        for floor in FLOORS:
            for place in range(floor[1]):
                self.assertIs(meets(floor, placed(place), ("spread",)), True)

    def test_not_and_both(self):
        standing = placed(0, 1)
        yes, no = ("apart",), ("together",)
        for one, first in ((yes, True), (no, False)):
            self.assertIs(meets(("row", 2), standing, ("not", one)), not first)
            for other, second in ((yes, True), (no, False)):
                self.assertIs(meets(("row", 2), standing, ("both", one, other)), first and second)

    def test_to_depth_four(self):
        standing = placed(0, 1)
        for deep in range(1, 5):
            self.assertIs(meets(("row", 2), standing, nested(deep)), deep % 2 == 1)
            claim = ("together",)
            for _ in range(deep - 1):
                claim = ("both", claim, ("apart",))
            self.assertIs(meets(("row", 2), standing, claim), False)
        both = ("both", ("both", ("apart",), ("spread",)), ("not", ("together",)))
        deep = ("both", both, ("not", ("not", ("apart",))))
        self.assertIs(meets(("row", 2), standing, deep), True)

    def test_drawn_claims(self):
        chance = random.Random(131)
        for _ in range(1500):
            floor = chance.choice(FLOORS)
            standing, claim = random_standing(chance, floor), random_claim(chance)
            self.assertIs(meets(floor, standing, claim), told_meets(floor, standing, claim), (floor, standing, claim))

    def test_spread_against_steps(self):
        chance = random.Random(132)
        for _ in range(1500):
            floor = chance.choice(RINGS + ROWS)
            standing = random_standing(chance, floor)
            self.assertIs(meets(floor, standing, ("spread",)), told_spread(floor, standing), (floor, standing))

    def test_turned_and_numbered_otherwise(self):
        chance = random.Random(133)
        for _ in range(300):
            floor = chance.choice(FLOORS)
            standing, claim = random_standing(chance, floor), random_claim(chance)
            expected = meets(floor, standing, claim)
            self.assertIs(meets(floor, turned(floor, standing, *random_ways(chance, floor)), claim), expected)
            order = chance.sample(range(len(standing)), len(standing))
            self.assertIs(meets(floor, renumbered(standing, order), claim), expected)


class RefusalsTest(Refusals, unittest.TestCase):
    def test_claims(self):
        for claim in BAD_CLAIMS:
            self.assert_refused(BadClaim, claim, meets, ("row", 2), placed(0), claim)

    def test_too_deep(self):
        for deep in (5, 6, 30, 59):
            claim = nested(deep)
            self.assert_refused(BadClaim, claim, meets, ("row", 2), placed(0), claim)
        both = ("both", nested(3), nested(1))
        for claim in (("both", nested(4), ("apart",)), ("both", ("apart",), nested(4)), ("not", both)):
            self.assert_refused(BadClaim, claim, meets, ("row", 2), placed(0), claim)
        for claim in (nested(4), ("both", nested(3), nested(3)), nested(4, ("marked", 0, 0, 0))):
            self.assertIs(type(meets(("row", 2), placed(0), claim)), bool)

    def test_within_others(self):
        for wrong in BAD_CLAIMS:
            both = ("both", ("apart",), wrong)
            for claim in (("not", wrong), both, ("both", wrong, ("apart",)), ("not", ("not", wrong))):
                self.assert_refused(BadClaim, claim, meets, ("row", 2), placed(0), claim)

    def test_floors_and_standings(self):
        for floor in BAD_FLOORS:
            self.assert_refused(BadFloor, floor, meets, floor, placed(0), ("apart",))
        for standing in BAD_STANDINGS:
            self.assert_refused(BadStanding, standing, meets, ("row", 3), standing, ("apart",))

    def test_several_wrong_at_once(self):
        floor, standing, claim = [0], [1], [2]
        self.assert_refused(BadFloor, floor, meets, floor, standing, claim)
        self.assert_refused(BadStanding, standing, meets, ("row", 3), standing, claim)
        self.assert_refused(BadClaim, claim, meets, ("row", 3), placed(0), claim)


if __name__ == "__main__":
    unittest.main()

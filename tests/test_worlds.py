"""Point 12: worlds, what is come to in them, and guarantee (g)."""

import random
import unittest

from onestillview.errors import BadClaim, BadFloor, BadKind, BadMany, BadMost, BadStanding, NoProgram, Wide
from onestillview.floors import turned
from onestillview.texts import Program
from onestillview.worlds import come_to, holds, shows_holds, shows_surely, surely
from tests.claims import BAD_CLAIMS
from tests.helpers import BAD_FLOORS, BAD_STANDINGS, NO_PROGRAMS
from tests.helpers import Refusals, random_ways, refusal, renumbered
from tests.searches import searched_standings
from tests.worlds import APART, BAD_KINDS, BAD_MOST, FAR, KINDS, NEAR, PAIR, ROW, SURE_KINDS, SWAP, TOGETHER, TWO
from tests.worlds import some_starts


class ComeToTest(unittest.TestCase):
    def test_the_examples(self):
        self.assertEqual([len(come_to(kind, NEAR, ROW, FAR, 9)) for kind in KINDS], [2, 6, 8, 4, 8, 4])
        self.assertEqual(come_to("eras", NEAR, ROW, FAR, 4), (
            ((0, 0, 1), (1, 0, 1)), ((0, 0, 1), (2, 0, 1)), ((1, 0, 1), (1, 0, 1)), ((1, 0, 1), (2, 0, 1)),
        ))
        self.assertEqual([len(come_to(kind, SWAP, TWO, PAIR, 9)) for kind in ("full", "some", "own")], [2, 6, 8])

    def test_each_world_by_a_search(self):
        met = {kind: 0 for kind in KINDS}
        for program, floor, first, kind in some_starts(141, 150):
            expected = tuple(sorted(searched_standings(kind, program, floor, first)))
            self.assertEqual(come_to(kind, program, floor, first, 300), expected, (kind, floor, first))
            met[kind] += len(expected) > 3
        self.assertGreater(min(met.values()), 4)

    def test_small_floors(self):
        chance = random.Random(142)
        for floor in (("row", 1), ("row", 2), ("ring", 3)):
            for many in (1, 2, 3):
                program = chance.choice((NEAR, SWAP))
                first = tuple((chance.randrange(floor[1]), 0, chance.choice((1, -1))) for _ in range(many))
                for kind in KINDS:
                    if kind != "own" or many < 3:
                        expected = searched_standings(kind, program, floor, first)
                        self.assertEqual(come_to(kind, program, floor, first, 20000), tuple(sorted(expected)))

    def test_lit_is_eras(self):
        for program, floor, first, _ in some_starts(143, 60, walkers=5):
            wide = refusal(come_to, "eras", program, floor, first, 400)
            self.assertEqual(refusal(come_to, "lit", program, floor, first, 400), wide)
            if wide is None:
                eras = come_to("eras", program, floor, first, 400)
                self.assertEqual(come_to("lit", program, floor, first, 400), eras)

    def test_some_is_within_own(self):
        more = 0
        for program, floor, first, _ in some_starts(144, 60, walkers=2):
            some = come_to("some", program, floor, first, 20000)
            own = come_to("own", program, floor, first, 20000)
            self.assertLessEqual(set(some), set(own))
            more += len(own) > len(some)
        self.assertGreater(more, 5)

    def test_the_beginning_is_come_to(self):
        still = Program("marks 1\nstep 0\nmark 0")
        for many in (1, 2):
            first = ((0, 0, 1),) * many
            for kind in KINDS:
                self.assertEqual(come_to(kind, still, ("row", 1), first, 1), (first,))

    def test_only_when_all_are_idle(self):
        # The mark changes ahead of the step: with place 0 and mark 1 the walker is never idle.
        forth = Program("marks 4\nstep 1\nmark plus mine 1")
        for kind in KINDS:
            found = come_to(kind, forth, ("row", 8), ((0, 0, 1),), 99)
            self.assertEqual(found, tuple(((place, min(place, 3), 1),) for place in range(8)))

    def test_wide(self):
        for program, floor, first, kind in some_starts(145, 40):
            found = come_to(kind, program, floor, first, 300)
            many = len(found)
            self.assertEqual(come_to(kind, program, floor, first, many), found)
            if many > 1:
                self.assertEqual(refusal(come_to, kind, program, floor, first, many - 1), (Wide, many - 1))
                self.assertEqual(refusal(come_to, kind, program, floor, first, 1), (Wide, 1))

    def test_turned_and_mirrored(self):
        chance = random.Random(146)
        for program, floor, first, kind in some_starts(147, 40, walkers=4):
            way = random_ways(chance, floor)
            one = come_to(kind, program, floor, first, 300)
            other = come_to(kind, program, floor, turned(floor, first, *way), 300)
            self.assertEqual(other, tuple(sorted(turned(floor, standing, *way) for standing in one)))

    def test_walkers_numbered_otherwise(self):
        chance = random.Random(148)
        for program, floor, first, kind in some_starts(149, 40, walkers=4):
            order = chance.sample(range(len(first)), len(first))
            one = come_to(kind, program, floor, first, 300)
            other = come_to(kind, program, floor, renumbered(first, order), 300)
            self.assertEqual(other, tuple(sorted(renumbered(standing, order) for standing in one)))


class RefusalsTest(Refusals, unittest.TestCase):
    def calls(self):
        """(call, has a claim, what is behind most) of each function with a kind."""
        return (
            (come_to, False, ()), (holds, True, ()), (shows_holds, True, (None,)), (surely, True, ()),
            (shows_surely, True, (None,)),
        )

    def test_each_alone(self):
        four = Program("marks 4\nstep 0\nmark 0")
        for call, has_claim, behind in self.calls():
            claim = (APART,) if has_claim else ()
            for kind in BAD_KINDS + (("one", "some", "own") if call in (surely, shows_surely) else ()):
                self.assert_refused(BadKind, kind, call, kind, SWAP, TWO, PAIR, *claim, 9, *behind)
            kinds = SURE_KINDS if call in (surely, shows_surely) else KINDS
            for kind in kinds:
                for program in NO_PROGRAMS:
                    self.assert_refused(NoProgram, program, call, kind, program, TWO, PAIR, *claim, 9, *behind)
                for floor in BAD_FLOORS:
                    self.assert_refused(BadFloor, floor, call, kind, SWAP, floor, PAIR, *claim, 9, *behind)
                for standing in BAD_STANDINGS:
                    told = (kind, four, ("row", 3), standing, *claim, 9, *behind)
                    self.assert_refused(BadStanding, standing, call, *told)
                for most in BAD_MOST:
                    self.assert_refused(BadMost, most, call, kind, SWAP, TWO, PAIR, *claim, most, *behind)
                for wrong in BAD_CLAIMS if has_claim else ():
                    self.assert_refused(BadClaim, wrong, call, kind, SWAP, TWO, PAIR, wrong, 9, *behind)

    def test_marks_that_are_not_of_the_program(self):
        marked = ((0, 0, 1), (0, 2, 1))
        for call, has_claim, behind in self.calls():
            claim = (APART,) if has_claim else ()
            self.assert_refused(BadStanding, marked, call, "full", SWAP, TWO, marked, *claim, 9, *behind)

    def test_more_than_two_in_their_own_time(self):
        for many in (3, 4, 5):
            first = ((0, 0, 1),) * many
            self.assert_numbered(BadMany, many, come_to, "own", SWAP, TWO, first, 9)
            self.assert_numbered(BadMany, many, come_to, "own", SWAP, TWO, first, None)
            self.assert_numbered(BadMany, many, holds, "own", SWAP, TWO, first, None, None)
            self.assert_numbered(BadMany, many, shows_holds, "own", SWAP, TWO, first, APART, 9, None)
            for kind in ("full", "one", "some", "eras", "lit"):
                self.assertIsNone(refusal(come_to, kind, SWAP, ("row", 1), first, 9999))
        for many in (1, 2):
            self.assertIsNone(refusal(come_to, "own", SWAP, TWO, ((0, 0, 1),) * many, 99))

    def test_wide_with_or_without_a_claim(self):
        self.assertEqual([len(come_to(kind, NEAR, ROW, FAR, 9)) for kind in SURE_KINDS], [2, 4, 4])
        for claim in (APART, TOGETHER, ("marked", 0, 2, 2), ("not", ("marked", 0, 2, 2))):
            for kind, many in zip(KINDS, (2, 6, 8, 4, 8, 4)):
                calls = ((holds, ()), (shows_holds, (None,)), (surely, ()), (shows_surely, (None,)))
                for call, behind in calls[:4 if kind in SURE_KINDS else 2]:
                    self.assertEqual(refusal(call, kind, NEAR, ROW, FAR, claim, many - 1, *behind), (Wide, many - 1))
                    self.assertIsNone(refusal(call, kind, NEAR, ROW, FAR, claim, many, *behind))

    def test_the_greatest_most(self):
        for most in (20000, 4):
            self.assertEqual(len(come_to("eras", NEAR, ROW, FAR, most)), 4)

    def test_several_wrong_at_once(self):
        kind, program, floor, standing, claim, most = [0], [1], [2], [3], [4], [5]
        for call, has_claim, behind in self.calls():
            claims = (claim,) if has_claim else ()
            told = (kind, program, floor, standing, *claims, most, *behind)
            right = ("full", SWAP, TWO, PAIR) + ((APART,) if has_claim else ()) + (1,)
            errors = [BadKind, NoProgram, BadFloor, BadStanding] + [BadClaim] * has_claim + [BadMost]
            for at, wrong in enumerate(errors):
                self.assert_refused(wrong, told[at], call, *right[:at], *told[at:])
            self.assertEqual(refusal(call, *right, *behind), (Wide, 1))


if __name__ == "__main__":
    unittest.main()

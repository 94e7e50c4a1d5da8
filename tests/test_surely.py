"""Point 12: what surely comes."""

import random
import unittest
from itertools import product

from onestillview.beats import left
from onestillview.texts import Program
from onestillview.worlds import shows_surely, surely
from tests.claims import random_claim, told_meets
from tests.helpers import NO_TUPLES, refusal
from tests.searches import searched_surely
from tests.worlds import APART, FAR, NEAR, PAIR, ROW, SURE_KINDS, SWAP, TOGETHER, TWO, led_to, some_starts

STILL = Program("marks 1\nstep 0\nmark 0")
FORTH = Program("marks 2\nstep 1\nmark plus mine 1")


def goes_on_for_ever(kind, program, floor, first, claim, ahead, again):
    """Whether these LOTS lead round and round without the claim."""
    kind = "eras" if kind == "lit" else kind
    if not isinstance(ahead, tuple) or not isinstance(again, tuple) or again == ():
        return False
    lots = ahead + again
    passed = [led_to(kind, program, floor, first, lots[:many]) for many in range(len(lots) + 1)]
    if None in passed or any(told_meets(floor, standing, claim) for standing in passed):
        return False
    many = len(first)
    return passed[len(ahead)] == passed[-1] and left(many, ahead) == left(many, lots)


class SurelyTest(unittest.TestCase):
    def test_the_examples(self):
        found = [surely(kind, NEAR, ROW, FAR, TOGETHER, 9) for kind in SURE_KINDS]
        self.assertEqual(found, [("surely", 1), ("surely", 2), ("surely", 2)])
        again = ("never", (), ((0, 1), (0, 1)))
        self.assertIs(shows_surely("full", SWAP, TWO, PAIR, TOGETHER, 2, again), True)

    def test_it_holds_at_the_beginning(self):
        for kind in SURE_KINDS:
            self.assertEqual(surely(kind, NEAR, ROW, FAR, APART, 9), ("surely", 0))
            self.assertIs(shows_surely(kind, NEAR, ROW, FAR, APART, 9, ("surely", 0)), True)
            self.assertIs(shows_surely(kind, NEAR, ROW, FAR, APART, 9, ("never", (), ((0, 1),))), False)

    def test_the_longest_way_counts(self):
        # Each one needs three steps; in eras both of them may, or one behind the other each time.
        pair, marked = ((0, 0, 1), (0, 0, 1)), Program("marks 4\nstep 1\nmark plus mine 1")
        for claim, full, in_eras in (
            (("marked", 3, 2, 2), 3, 6), (("marked", 3, 1, 2), 3, 5), (("marked", 2, 2, 2), 2, 4),
            (("marked", 1, 1, 1), None, None), (("marked", 0, 0, 1), 1, 1),
            (("both", ("marked", 3, 2, 2), TOGETHER), 3, 6),
        ):
            for kind, many in (("full", full), ("eras", in_eras), ("lit", in_eras)):
                found = surely(kind, marked, ("row", 4), pair, claim, 99)
                self.assertEqual(found[:1] if many is None else found, ("never",) if many is None else ("surely", many))

    def test_nobody_moves(self):
        for kind in SURE_KINDS:
            word, ahead, again = surely(kind, STILL, TWO, PAIR, TOGETHER, 1)
            self.assertEqual(word, "never")
            self.assertTrue(goes_on_for_ever(kind, STILL, TWO, PAIR, TOGETHER, ahead, again))

    def test_drawn_claims_by_a_search(self):
        chance = random.Random(171)
        told = {(kind, word): 0 for kind in SURE_KINDS for word in ("surely", "never")}
        later = 0
        for program, floor, first, kind in some_starts(172, 160):
            kind = kind if kind in SURE_KINDS else chance.choice(SURE_KINDS)
            if refusal(surely, kind, program, floor, first, APART, 200) is not None:
                continue
            for _ in range(4):
                claim = random_claim(chance)
                many = searched_surely(kind, program, floor, first, lambda standing: told_meets(floor, standing, claim))
                found = surely(kind, program, floor, first, claim, 200)
                if many is not None:
                    self.assertEqual(found, ("surely", many), (kind, floor, first, claim))
                    later += many > 1
                else:
                    self.assertEqual((len(found), found[0]), (3, "never"))
                    self.assertTrue(goes_on_for_ever(kind, program, floor, first, claim, *found[1:]))
                self.assertIs(shows_surely(kind, program, floor, first, claim, 200, found), True)
                told[kind, found[0]] += 1
        self.assertGreater(min(told.values()), 10)
        self.assertGreater(later, 5)

    def test_lit_is_told_as_eras(self):
        chance = random.Random(173)
        for program, floor, first, _ in some_starts(174, 40):
            claim = random_claim(chance)
            if refusal(surely, "eras", program, floor, first, claim, 200) is None:
                found = surely("eras", program, floor, first, claim, 200)
                self.assertEqual(surely("lit", program, floor, first, claim, 200), found)
                self.assertIs(shows_surely("lit", program, floor, first, claim, 200, found), True)

    def test_kinds_of_what_is_told(self):
        for kind in SURE_KINDS:
            found = surely(kind, STILL, TWO, PAIR, TOGETHER, 1)
            self.assertEqual([type(part) for part in found], [str, tuple, tuple])
            self.assertEqual([type(part) for part in surely(kind, NEAR, ROW, FAR, TOGETHER, 9)], [str, int])


class ShowsSurelyTest(unittest.TestCase):
    def test_counts(self):
        for kind, many in zip(SURE_KINDS, (1, 2, 2)):
            for value in range(-1, 9):
                told = shows_surely(kind, NEAR, ROW, FAR, TOGETHER, 9, ("surely", value))
                self.assertIs(told, value == many)
            values = (
                ["surely", many], ("surely",), ("surely", many, many), ("surely", None), ("Surely", many), many,
                ("surely", str(many)), ("holds", many), (many, "surely"), None, ("never", (), ()), "surely",
                ("never", (), ((0, 1),)), ("surely", True), ("never", ((0, 1),), ((0, 1),)),
            )
            for value in values:
                self.assertIs(shows_surely(kind, NEAR, ROW, FAR, TOGETHER, 9, value), False, (kind, value))

    def test_a_bool_is_no_count(self):
        self.assertEqual(surely("full", NEAR, ROW, FAR, TOGETHER, 9), ("surely", 1))
        self.assertIs(shows_surely("full", NEAR, ROW, FAR, TOGETHER, 9, ("surely", True)), False)
        self.assertEqual(surely("full", NEAR, ROW, FAR, APART, 9), ("surely", 0))
        self.assertIs(shows_surely("full", NEAR, ROW, FAR, APART, 9, ("surely", False)), False)

    def test_all_short_lots(self):
        rows = [lots for length in range(4) for lots in product(((0,), (0, 1), (1,)), repeat=length)]
        for kind in SURE_KINDS:
            right = 0
            for program in (STILL, SWAP):
                for ahead, again in product(rows[:13], rows):
                    found = shows_surely(kind, program, TWO, PAIR, TOGETHER, 9, ("never", ahead, again))
                    expected = goes_on_for_ever(kind, program, TWO, PAIR, TOGETHER, ahead, again)
                    self.assertIs(found, expected, (kind, ahead, again))
                    right += found
            self.assertGreater(right, 4)

    def test_the_same_walkers_are_left(self):
        # The standing is the same all along, but another era has begun.
        for kind in ("eras", "lit"):
            for again, told in ((((0,),), False), (((0,), (1,)), True), (((0, 1),), True), (((1,), (0,), (1,)), False)):
                self.assertIs(shows_surely(kind, STILL, TWO, PAIR, TOGETHER, 1, ("never", (), again)), told)
                behind = shows_surely(kind, STILL, TWO, PAIR, TOGETHER, 1, ("never", ((0, 1),), again))
                self.assertIs(behind, told)
            within = ("never", ((0,),), ((1,), (0,)))
            self.assertIs(shows_surely(kind, STILL, TWO, PAIR, TOGETHER, 1, within), True)

    def test_the_claim_holds_on_the_way(self):
        # On a ring of three both meet, part, and meet again.
        ring, pair = ("ring", 3), ((0, 0, 1), (1, 0, -1))
        self.assertEqual(surely("full", FORTH, ring, pair, TOGETHER, 9)[0], "surely")
        round_about = ("never", (), ((0, 1),) * 6)
        self.assertIs(shows_surely("full", FORTH, ring, pair, TOGETHER, 9, round_about), False)
        never = ("not", ("marked", 0, 0, 2))
        self.assertIs(shows_surely("full", FORTH, ring, pair, never, 9, round_about), False)
        behind = ("never", ((0, 1),) * 3, ((0, 1),) * 3)
        self.assertIs(shows_surely("full", FORTH, ring, pair, never, 9, behind), True)
        self.assertIs(shows_surely("full", FORTH, ring, pair, TOGETHER, 9, behind), False)
        # One behind the other they meet in each era; both at once they never do.
        ring, pair = ("ring", 4), ((0, 0, 1), (1, 0, 1))
        for kind in ("eras", "lit"):
            self.assertEqual(surely(kind, FORTH, ring, pair, TOGETHER, 99)[0], "never")
            for again, told in (((0, 1),) * 4, True), (((0,), (1,)) * 4, False), (((1,), (0,)) * 4, True):
                found = shows_surely(kind, FORTH, ring, pair, TOGETHER, 99, ("never", ((0, 1),), again))
                self.assertIs(found, told, again)

    def test_any_value(self):
        lots = ((0, 1),)
        values = NO_TUPLES + (
            ("never",), ("never", ()), ("never", (), lots, ()), ["never", (), lots], ("Never", (), lots),
            ("surely", (), lots),
            ("never", None, lots), ("never", (), None), ("never", [], lots), ("never", (), list(lots)),
            ("never", (), ((2,),)),
            ("never", (), ((0, 1), None)), ("never", (), ((False, 1),)), ("never", lots, ()), ("never", (), ([0, 1],)),
            ("never", (), (("look", 0),)), ("never", "", lots), ("never", (), (0, 1)), ("surely", 0), ("surely", 5),
        )
        for kind in SURE_KINDS:
            self.assertIs(shows_surely(kind, STILL, TWO, PAIR, TOGETHER, 1, ("never", (), lots)), True)
            for value in values:
                self.assertIs(shows_surely(kind, STILL, TWO, PAIR, TOGETHER, 1, value), False, (kind, value))


if __name__ == "__main__":
    unittest.main()

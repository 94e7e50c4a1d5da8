"""Point 6: kinds of LOTS, eras, and which lots can stand behind others."""

import random
import unittest
from itertools import combinations, product

from onestillview.beats import eras, is_kind, left, next_lots
from onestillview.errors import BadKind, BadLots, BadMany
from tests.helpers import BAD_LOTS_OF_THREE, NO_NUMBERS, NO_TUPLES, STILL, Refusals, random_eras, random_lots

KINDS = ("full", "one", "some", "eras")
LOTS = ((0, 2), (1,), (1,), (0,))
BAD_KINDS = NO_TUPLES + ("Full", "FULL", "ones", "era", "own", "lit", " one", (), ("full",), ["full"], "full one")
BAD_MANY = NO_NUMBERS + (0, -1, 6, 7, 123456789, -123456789)


def all_lots(many):
    """Each single lot of so many walkers."""
    return sorted(lot for size in range(1, many + 1) for lot in combinations(range(many), size))


def told_eras(many, lots):
    """The LOTS cut where everybody has been in one, None if they are not in eras: as point 6 says it."""
    for end in range(1, len(lots) + 1):
        present = [walker for lot in lots[:end] for walker in lot]
        if set(present) == set(range(many)):
            behind = told_eras(many, lots[end:])
            return None if len(present) != many or behind is None else (lots[:end],) + behind
    present = [walker for lot in lots for walker in lot]
    if len(present) != len(set(present)):
        return None
    return (lots,) if lots else ()


def told_kinds(many, lots):
    """The kinds that these LOTS have."""
    found = {"some"}
    if all(lot == tuple(range(many)) for lot in lots):
        found.add("full")
    if all(len(lot) == 1 for lot in lots):
        found.add("one")
    if told_eras(many, lots) is not None:
        found.add("eras")
    return found


def some_lots():
    """(many, LOTS): all short ones of few walkers, and some longer ones of more."""
    for many, longest in ((1, 5), (2, 4), (3, 3), (4, 2)):
        for length in range(longest + 1):
            for lots in product(all_lots(many), repeat=length):
                yield many, lots
    chance = random.Random(31)
    for _ in range(500):
        many = chance.randint(1, 5)
        yield many, random_lots(chance, many, 6)
    for _ in range(500):
        many = chance.randint(1, 5)
        yield many, random_eras(chance, many, 9)


class KindTest(Refusals, unittest.TestCase):
    def test_the_examples(self):
        self.assertEqual([is_kind(kind, 3, LOTS) for kind in KINDS], [False, False, True, True])
        self.assertFalse(is_kind("eras", 3, LOTS + ((1,),)))

    def test_no_lots_are_of_each_kind(self):
        for kind in KINDS:
            for many in range(1, 6):
                self.assertIs(is_kind(kind, many, ()), True)

    def test_one_walker(self):
        for length in range(5):
            for kind in KINDS:
                self.assertIs(is_kind(kind, 1, ((0,),) * length), True)

    def test_each_kind_by_itself(self):
        self.assertEqual([is_kind(kind, 2, ((0, 1), (0, 1))) for kind in KINDS], [True, False, True, True])
        self.assertEqual([is_kind(kind, 2, ((0,), (0,))) for kind in KINDS], [False, True, True, False])
        self.assertEqual([is_kind(kind, 2, ((0,), (1,))) for kind in KINDS], [False, True, True, True])
        self.assertEqual([is_kind(kind, 2, ((0,), (0, 1))) for kind in KINDS], [False, False, True, False])
        self.assertEqual([is_kind(kind, 3, ((0, 1, 2), (0, 1))) for kind in KINDS], [False, False, True, True])
        self.assertEqual([is_kind(kind, 3, ((0, 1), (1, 2))) for kind in KINDS], [False, False, True, False])

    def test_whose_lots_they_are_counts(self):
        lots = ((0, 1), (0, 1))
        self.assertEqual([is_kind("full", many, lots) for many in (1, 2, 3, 4, 5)], [False, True, False, False, False])
        self.assertEqual([is_kind("eras", many, lots) for many in (1, 2, 3, 4, 5)], [False, True, False, False, False])
        self.assertEqual([is_kind("some", many, lots) for many in (1, 2, 3, 4, 5)], [False, True, True, True, True])

    def test_all_short_lots_and_many_others(self):
        for many, lots in some_lots():
            found = told_kinds(many, lots)
            for kind in KINDS:
                self.assertIs(is_kind(kind, many, lots), kind in found, (kind, many, lots))

    def test_any_value(self):
        for kind in KINDS:
            for value in NO_TUPLES + ((0,), (0, 1, 2), [(0, 1, 2)], [], {(0,): 1}, "", ((0, 1, 2), None)):
                self.assertIs(is_kind(kind, 3, value), False, value)
            for lot in BAD_LOTS_OF_THREE:
                for value in ((lot,), (lot, (0, 1, 2)), ((0, 1, 2), lot), ((0,), lot), (lot, lot)):
                    self.assertIs(is_kind(kind, 3, value), False, value)
            nested = ((0,),)
            for _ in range(57):
                nested = (nested,)
            self.assertIs(is_kind(kind, 3, nested), False)

    def test_bools_are_no_numbers(self):
        self.assertIs(is_kind("one", 2, ((False,), (True,))), False)
        self.assertIs(is_kind("full", 2, ((False, True),)), False)
        self.assertIs(is_kind("full", 2, ((0, True),)), False)
        self.assertIs(is_kind("eras", 2, ((0,), (True,))), False)


class ErasTest(unittest.TestCase):
    def test_the_examples(self):
        self.assertEqual(eras(3, LOTS), (((0, 2), (1,)), ((1,), (0,))))
        self.assertEqual(left(3, LOTS), (2,))
        self.assertEqual(left(3, LOTS[:2]), (0, 1, 2))

    def test_nobody_in_an_era(self):
        for many in range(1, 6):
            self.assertEqual(eras(many, ()), ())
            self.assertEqual(left(many, ()), tuple(range(many)))

    def test_an_era_that_has_just_ended(self):
        for many in range(1, 6):
            whole = (tuple(range(many)),)
            single = tuple((walker,) for walker in range(many))
            self.assertEqual(eras(many, whole + single + whole), (whole, single, whole))
            self.assertEqual(left(many, whole + single), tuple(range(many)))

    def test_an_open_era(self):
        self.assertEqual(eras(3, ((1,),)), (((1,),),))
        self.assertEqual(left(3, ((1,),)), (0, 2))
        self.assertEqual(left(3, ((1,), (2,))), (0,))
        self.assertEqual(eras(2, ((0, 1), (1,))), (((0, 1),), ((1,),)))
        self.assertEqual(left(2, ((0, 1), (1,))), (0,))
        self.assertEqual(left(5, ((1, 4), (2,))), (0, 3))

    def test_all_short_lots_and_many_others(self):
        for many, lots in some_lots():
            expected = told_eras(many, lots)
            if expected is not None:
                self.assertEqual(eras(many, lots), expected)
                present = [walker for era in expected[-1:] for lot in era for walker in lot]
                missing = tuple(walker for walker in range(many) if walker not in present)
                self.assertEqual(left(many, lots), missing or tuple(range(many)))


class NextLotsTest(unittest.TestCase):
    def test_the_examples(self):
        self.assertEqual(
            [next_lots(kind, 2, ()) for kind in ("full", "one", "eras")],
            [((0, 1),), ((0,), (1,)), ((0,), (0, 1), (1,))],
        )
        self.assertEqual(next_lots("eras", 3, ((0,),)), ((1,), (1, 2), (2,)))

    def test_each_kind_without_lots(self):
        for many in range(1, 6):
            self.assertEqual(next_lots("full", many, ()), (tuple(range(many)),))
            self.assertEqual(next_lots("one", many, ()), tuple((walker,) for walker in range(many)))
            self.assertEqual(next_lots("some", many, ()), tuple(all_lots(many)))
            self.assertEqual(next_lots("eras", many, ()), tuple(all_lots(many)))
        self.assertEqual(next_lots("some", 3, ()), ((0,), (0, 1), (0, 1, 2), (0, 2), (1,), (1, 2), (2,)))

    def test_behind_eras(self):
        self.assertEqual(next_lots("eras", 3, ((0, 2), (1,))), tuple(all_lots(3)))
        self.assertEqual(next_lots("eras", 3, ((0, 2),)), ((1,),))
        self.assertEqual(next_lots("eras", 3, ((0, 1, 2), (1,))), ((0,), (0, 2), (2,)))
        self.assertEqual(next_lots("eras", 1, ((0,),)), ((0,),))

    def test_all_short_lots_and_many_others(self):
        for many, lots in some_lots():
            if len(lots) > 2 and many > 2:
                continue
            for kind in told_kinds(many, lots):
                expected = [lot for lot in all_lots(many) if kind in told_kinds(many, lots + (lot,))]
                self.assertEqual(next_lots(kind, many, lots), tuple(expected))


class RefusalsTest(Refusals, unittest.TestCase):
    def test_kinds(self):
        for kind in BAD_KINDS:
            self.assert_refused(BadKind, kind, is_kind, kind, 3, LOTS)
            self.assert_refused(BadKind, kind, next_lots, kind, 3, ())

    def test_how_many(self):
        for many in BAD_MANY:
            for kind in KINDS:
                self.assert_refused(BadMany, many, is_kind, kind, many, ())
                self.assert_refused(BadMany, many, next_lots, kind, many, ())
            self.assert_refused(BadMany, many, eras, many, ())
            self.assert_refused(BadMany, many, left, many, ())

    def test_lots(self):
        wrong = NO_TUPLES + tuple((lot,) for lot in BAD_LOTS_OF_THREE) + (
            ((0, 1), (1,)), ((0,), (0,)), ((0, 1, 2), (0,), (0,)), (0,), (0, 1, 2), [(0,)], ((0, 1, 2), STILL),
        )
        for lots in wrong:
            self.assert_refused(BadLots, lots, eras, 3, lots)
            self.assert_refused(BadLots, lots, left, 3, lots)
            self.assert_refused(BadLots, lots, next_lots, "eras", 3, lots)

    def test_lots_of_another_kind(self):
        for many, lots in some_lots():
            if len(lots) < 4:
                for kind in set(KINDS) - told_kinds(many, lots):
                    self.assert_refused(BadLots, lots, next_lots, kind, many, lots)
                    if kind == "eras":
                        self.assert_refused(BadLots, lots, eras, many, lots)
                        self.assert_refused(BadLots, lots, left, many, lots)

    def test_several_wrong_at_once(self):
        kind, many, lots = ["some"], [3], [()]
        self.assert_refused(BadKind, kind, is_kind, kind, many, lots)
        self.assert_refused(BadMany, many, is_kind, "some", many, lots)
        self.assert_refused(BadKind, kind, next_lots, kind, many, lots)
        self.assert_refused(BadMany, many, next_lots, "some", many, lots)
        self.assert_refused(BadLots, lots, next_lots, "some", 3, lots)
        for call in (eras, left):
            self.assert_refused(BadMany, many, call, many, lots)
            self.assert_refused(BadLots, lots, call, 3, lots)


if __name__ == "__main__":
    unittest.main()

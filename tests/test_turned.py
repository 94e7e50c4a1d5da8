"""Point 4: standings turned and mirrored, likenesses, twins."""

import random
import unittest
from collections import Counter
from itertools import permutations

from onestillview.errors import BadFloor, BadMirror, BadStanding, BadTurn
from onestillview.floors import likenesses, turned, twins, view
from tests.helpers import BAD_STANDINGS, FLOORS, NO_NUMBERS, RINGS, ROWS, Refusals, random_standing, walked

THREE = ((0, 1, 1), (2, 0, -1), (2, 3, 1))
PAIR = ((0, 0, 1), (2, 0, -1))


def turned_plainly(floor, standing, by, is_mirrored):
    """The standing turned, each walker by itself, step by step."""
    found = []
    for place, mark, sense in standing:
        if is_mirrored:
            place, sense = range(floor[1])[-1 - place], {1: -1, -1: 1}[sense]
        found.append((walked(floor, place, by), mark, sense))
    return tuple(found)


def ways_of(floor):
    """All (by, is_mirrored) of this floor, ascending."""
    turns = floor[1] if floor[0] == "ring" else 1
    return [(by, is_mirrored) for by in range(turns) for is_mirrored in (False, True)]


class TurnedTest(Refusals, unittest.TestCase):
    def test_the_example(self):
        self.assertEqual(turned(("ring", 4), THREE, 1, True), ((0, 1, -1), (2, 0, 1), (2, 3, -1)))

    def test_turned_alone(self):
        ring = ("ring", 5)
        one = ((0, 1, 1), (4, 2, -1), (3, 0, 1))
        self.assertEqual(turned(ring, one, 0, False), one)
        self.assertEqual(turned(ring, one, 1, False), ((1, 1, 1), (0, 2, -1), (4, 0, 1)))
        self.assertEqual(turned(ring, one, 4, False), ((4, 1, 1), (3, 2, -1), (2, 0, 1)))

    def test_mirrored_first_and_then_turned(self):
        ring = ("ring", 5)
        one = ((0, 1, 1), (3, 0, -1))
        self.assertEqual(turned(ring, one, 0, True), ((4, 1, -1), (1, 0, 1)))
        self.assertEqual(turned(ring, one, 1, True), ((0, 1, -1), (2, 0, 1)))
        self.assertEqual(turned(ring, one, 4, True), ((3, 1, -1), (0, 0, 1)))

    def test_a_row_is_mirrored(self):
        self.assertEqual(turned(("row", 4), THREE, 0, True), ((3, 1, -1), (1, 0, 1), (1, 3, -1)))
        self.assertEqual(turned(("row", 4), THREE, 0, False), THREE)
        self.assertEqual(turned(("row", 1), ((0, 2, 1),), 0, True), ((0, 2, -1),))

    def test_every_way_on_every_floor(self):
        chance = random.Random(8)
        for floor in FLOORS:
            for by, is_mirrored in ways_of(floor):
                for _ in range(6):
                    standing = random_standing(chance, floor)
                    expected = turned_plainly(floor, standing, by, is_mirrored)
                    self.assertEqual(turned(floor, standing, by, is_mirrored), expected)

    def test_turned_back(self):
        chance = random.Random(9)
        for floor in RINGS:
            standing = random_standing(chance, floor)
            for by in range(floor[1]):
                back = turned(floor, turned(floor, standing, by, False), (floor[1] - by) % floor[1], False)
                self.assertEqual(back, standing)
                self.assertEqual(turned(floor, turned(floor, standing, by, True), by, True), standing)

    def test_refusals(self):
        for standing in BAD_STANDINGS:
            self.assert_refused(BadStanding, standing, turned, ("row", 3), standing, 0, False)
        one = ((0, 0, 1),)
        for floor in RINGS:
            for by in NO_NUMBERS + (-1, floor[1], floor[1] + 1, 99):
                self.assert_refused(BadTurn, by, turned, floor, one, by, False)
        for floor in ROWS:
            for by in NO_NUMBERS + (-1, 1, 2, floor[1], 99):
                self.assert_refused(BadTurn, by, turned, floor, one, by, False)
        for floor in (("ring", 3), ("row", 2)):
            for is_mirrored in (0, 1, -1, None, "", "True", (), (True,), [], [True], {}):
                self.assert_refused(BadMirror, is_mirrored, turned, floor, one, 0, is_mirrored)

    def test_several_wrong_at_once(self):
        self.assert_refused(BadFloor, 1, turned, 1, 2, None, 4)
        self.assert_refused(BadStanding, 2, turned, ("ring", 3), 2, None, 4)
        self.assert_refused(BadTurn, True, turned, ("ring", 3), PAIR, True, 1)
        self.assert_refused(BadTurn, 3, turned, ("ring", 3), PAIR, 3, 1)


class LikenessesTest(Refusals, unittest.TestCase):
    def test_the_example(self):
        self.assertEqual(likenesses(("ring", 5), PAIR, PAIR), ((0, False), (3, True)))
        self.assertEqual(likenesses(("row", 3), PAIR, PAIR), ((0, False), (0, True)))
        self.assertEqual(likenesses(("row", 3), PAIR, THREE), ())

    def test_kinds_of_what_is_told(self):
        for by, is_mirrored in likenesses(("ring", 5), PAIR, PAIR):
            self.assertIs(type(by), int)
            self.assertIs(type(is_mirrored), bool)

    def test_all_ways_at_once_in_sequence(self):
        ring = ("ring", 4)
        round_about = tuple((place, 1, 1) for place in range(4))
        about = tuple((place, 1, -1) for place in range(4))
        self.assertEqual(likenesses(ring, round_about, round_about), tuple((by, False) for by in range(4)))
        self.assertEqual(likenesses(ring, round_about, about), tuple((by, True) for by in range(4)))
        both = ((0, 0, 1), (0, 0, -1), (2, 0, 1), (2, 0, -1))
        self.assertEqual(likenesses(ring, both, both), ((0, False), (1, True), (2, False), (3, True)))

    def test_which_way_it_is_turned(self):
        self.assertEqual(likenesses(("ring", 7), ((1, 2, 1),), ((3, 2, 1),)), ((2, False),))
        self.assertEqual(likenesses(("ring", 7), ((3, 2, 1),), ((1, 2, 1),)), ((5, False),))
        self.assertEqual(likenesses(("ring", 7), ((1, 2, 1),), ((3, 2, -1),)), ((5, True),))
        self.assertEqual(likenesses(("row", 7), ((1, 2, 1),), ((5, 2, -1),)), ((0, True),))
        self.assertEqual(likenesses(("row", 7), ((1, 2, 1),), ((1, 2, 1),)), ((0, False),))
        self.assertEqual(likenesses(("row", 7), ((1, 2, 1),), ((5, 2, 1),)), ())

    def test_marks_count(self):
        self.assertEqual(likenesses(("ring", 3), ((0, 1, 1),), ((0, 2, 1),)), ())
        self.assertEqual(likenesses(("ring", 3), ((0, 1, 1), (1, 2, 1)), ((0, 2, 1), (1, 1, 1))), ())

    def test_walkers_numbered_otherwise(self):
        standing = ((0, 1, 1), (2, 0, -1), (2, 3, 1), (3, 3, -1))
        ring = ("ring", 6)
        for by, is_mirrored in ways_of(ring):
            for order in permutations(turned(ring, standing, by, is_mirrored)):
                self.assertEqual(likenesses(ring, standing, order), ((by, is_mirrored),))

    def test_walkers_that_are_alike_count_each_as_often(self):
        ring = ("ring", 3)
        one = ((0, 0, 1), (0, 0, 1), (1, 0, 1))
        other = ((0, 0, 1), (1, 0, 1), (1, 0, 1))
        self.assertEqual(likenesses(ring, one, other), ())
        self.assertEqual(likenesses(ring, one, one), ((0, False),))
        self.assertEqual(likenesses(ring, one, (one[2], one[0], one[1])), ((0, False),))
        self.assertEqual(likenesses(ring, ((0, 0, 1),), ((0, 0, 1), (0, 0, 1))), ())
        self.assertEqual(likenesses(ring, ((0, 0, 1), (0, 0, 1)), ((0, 0, 1),)), ())

    def test_against_every_way_counted(self):
        chance = random.Random(10)
        for floor in FLOORS:
            for _ in range(25):
                one = random_standing(chance, floor, marks=2)
                other = random_standing(chance, floor, marks=2)
                if chance.random() < 0.7:
                    other = list(turned(floor, one, *chance.choice(ways_of(floor))))
                    chance.shuffle(other)
                    other = tuple(other)
                expected = tuple(
                    way for way in ways_of(floor) if Counter(turned_plainly(floor, one, *way)) == Counter(other)
                )
                self.assertEqual(likenesses(floor, one, other), expected)

    def test_turned_floors_have_turned_likenesses(self):
        chance = random.Random(11)
        for floor in RINGS:
            one = random_standing(chance, floor)
            for by in range(floor[1]):
                other = turned(floor, one, by, False)
                self.assertEqual(likenesses(floor, other, other)[0], (0, False))
                own = [way for way in likenesses(floor, one, one) if not way[1]]
                self.assertEqual([way for way in likenesses(floor, other, other) if not way[1]], own)
                self.assertEqual(len(likenesses(floor, one, other)), len(likenesses(floor, one, one)))

    def test_refusals(self):
        one = ((0, 0, 1),)
        for standing in BAD_STANDINGS:
            self.assert_refused(BadStanding, standing, likenesses, ("row", 3), standing, one)
            self.assert_refused(BadStanding, standing, likenesses, ("row", 3), one, standing)
        first, second = [one], [one]
        self.assert_refused(BadStanding, first, likenesses, ("row", 3), first, second)
        self.assert_refused(BadFloor, None, likenesses, None, first, second)


class TwinsTest(Refusals, unittest.TestCase):
    def test_the_examples(self):
        self.assertEqual(twins(("ring", 5), PAIR), ((0, 1),))
        self.assertEqual(twins(("ring", 4), THREE), ((0,), (1,), (2,)))
        self.assertEqual(twins(("row", 1), ((0, 2, 1), (0, 2, -1), (0, 1, 1))), ((0, 1), (2,)))

    def test_parts_stand_by_their_first_ones(self):
        heap = ((0, 3, 1), (0, 1, 1), (0, 3, -1), (0, 0, 1), (0, 1, 1))
        self.assertEqual(twins(("row", 1), heap), ((0, 2), (1, 4), (3,)))
        self.assertEqual(twins(("row", 1), heap[::-1]), ((0, 3), (1,), (2, 4)))

    def test_all_alike_round_a_ring(self):
        for size in (3, 4, 5):
            round_about = tuple((place, 2, 1) for place in range(size))
            self.assertEqual(twins(("ring", size), round_about), (tuple(range(size)),))

    def test_one_alone(self):
        self.assertEqual(twins(("row", 8), ((7, 0, -1),)), ((0,),))

    def test_one_place_and_mark_but_another_sense(self):
        self.assertEqual(twins(("row", 3), ((0, 0, 1), (0, 0, -1))), ((0,), (1,)))
        self.assertEqual(twins(("row", 3), ((1, 0, 1), (1, 0, -1))), ((0, 1),))
        self.assertEqual(twins(("row", 2), ((0, 0, 1), (1, 0, -1))), ((0, 1),))

    def test_against_views(self):
        chance = random.Random(12)
        for floor in FLOORS:
            for _ in range(30):
                standing = random_standing(chance, floor, marks=2)
                views = [view(floor, standing, walker) for walker in range(len(standing))]
                expected = []
                for walker, seen in enumerate(views):
                    if views.index(seen) == walker:
                        expected.append(tuple(other for other in range(len(views)) if views[other] == seen))
                self.assertEqual(twins(floor, standing), tuple(expected))

    def test_refusals(self):
        for standing in BAD_STANDINGS:
            self.assert_refused(BadStanding, standing, twins, ("row", 3), standing)
        self.assert_refused(BadFloor, 0, twins, 0, None)


if __name__ == "__main__":
    unittest.main()

"""Point 4: floors, distances, views."""

import random
import unittest
from itertools import combinations_with_replacement, permutations

from onestillview.errors import BadFloor, BadPlace, BadStanding, BadSteps, BadWalker
from onestillview.floors import at_distance, is_view, likenesses, turned, twins, view
from tests.helpers import BAD_FLOORS, BAD_STANDINGS, FLOORS, NO_NUMBERS, Refusals
from tests.helpers import RINGS, ROWS, random_standing, told_view, walked

THREE = ((0, 1, 1), (2, 0, -1), (2, 3, 1))
PAIR = ((0, 0, 1), (2, 0, -1))


class FloorTest(Refusals, unittest.TestCase):
    def test_floors_at_their_bounds(self):
        for floor in FLOORS:
            self.assertEqual(at_distance(floor, 0, 0), 0)
            self.assertEqual(at_distance(floor, floor[1] - 1, 0), floor[1] - 1)

    def test_whatever_is_no_floor_is_refused_by_each_function(self):
        one = ((0, 0, 1),)
        for floor in BAD_FLOORS:
            self.assert_refused(BadFloor, floor, at_distance, floor, 0, 0)
            self.assert_refused(BadFloor, floor, view, floor, one, 0)
            for value in ((0, (), (), ()), None, (), (4, (), (), ())):
                self.assert_refused(BadFloor, floor, is_view, floor, value)
            self.assert_refused(BadFloor, floor, turned, floor, one, 0, False)
            self.assert_refused(BadFloor, floor, likenesses, floor, one, one)
            self.assert_refused(BadFloor, floor, twins, floor, one)


class AtDistanceTest(Refusals, unittest.TestCase):
    def test_the_example(self):
        self.assertEqual(at_distance(("ring", 5), 3, 4), 2)
        self.assertEqual(at_distance(("ring", 5), 0, -7), 3)
        self.assertIsNone(at_distance(("row", 5), 3, 2))
        self.assertEqual(at_distance(("row", 5), 3, -3), 0)

    def test_every_place_and_distance(self):
        for floor in FLOORS:
            for place in range(floor[1]):
                for steps in range(-20, 21):
                    self.assertEqual(at_distance(floor, place, steps), walked(floor, place, steps))

    def test_the_farthest_distances(self):
        self.assertEqual(at_distance(("ring", 8), 0, 99), 3)
        self.assertEqual(at_distance(("ring", 8), 0, -99), 5)
        self.assertEqual(at_distance(("ring", 7), 6, 99), 0)
        for floor in FLOORS:
            for steps in (-99, -98, 98, 99):
                self.assertEqual(at_distance(floor, 0, steps), walked(floor, 0, steps))

    def test_a_row_ends_at_both_ends(self):
        for floor in ROWS:
            last = floor[1] - 1
            self.assertIsNone(at_distance(floor, last, 1))
            self.assertIsNone(at_distance(floor, 0, -1))
            self.assertEqual(at_distance(floor, 0, last), last)
            self.assertEqual(at_distance(floor, last, -last), 0)

    def test_refusals(self):
        for floor in FLOORS:
            for place in NO_NUMBERS + (-1, floor[1], floor[1] + 1, 99):
                self.assert_refused(BadPlace, place, at_distance, floor, place, 0)
            for steps in NO_NUMBERS + (-100, 100, 1000, -1000):
                self.assert_refused(BadSteps, steps, at_distance, floor, 0, steps)

    def test_several_wrong_at_once(self):
        self.assert_refused(BadFloor, None, at_distance, None, None, None)
        place, steps = [0], [1]
        self.assert_refused(BadPlace, place, at_distance, ("row", 2), place, steps)
        self.assert_refused(BadFloor, "row", at_distance, "row", 0, 100)


class ViewTest(Refusals, unittest.TestCase):
    def test_the_examples(self):
        self.assertEqual(
            [view(("ring", 4), THREE, walker) for walker in (0, 1)],
            [(1, (), ((), (0, 3), ()), ((), (0, 3), ())), (0, (3,), ((), (1,), ()), ((), (1,), ()))],
        )
        self.assertEqual(
            [view(("row", 4), THREE, walker)[2:] for walker in (0, 1, 2)],
            [(((), (0, 3), ()), ()), (((), (1,)), ((),)), (((),), ((), (1,)))],
        )

    def test_one_walker_alone(self):
        self.assertEqual(view(("row", 1), ((0, 3, -1),), 0), (3, (), (), ()))
        self.assertEqual(view(("ring", 3), ((1, 2, 1),), 0), (2, (), ((), ()), ((), ())))
        self.assertEqual(view(("row", 3), ((0, 0, 1),), 0), (0, (), ((), ()), ()))
        self.assertEqual(view(("row", 3), ((0, 0, -1),), 0), (0, (), (), ((), ())))

    def test_all_at_one_place(self):
        heap = ((0, 3, 1), (0, 1, -1), (0, 0, 1), (0, 3, 1), (0, 1, 1))
        self.assertEqual(view(("row", 1), heap, 0), (3, (0, 1, 1, 3), (), ()))
        self.assertEqual(view(("row", 1), heap, 2), (0, (1, 1, 3, 3), (), ()))
        self.assertEqual(view(("ring", 3), heap, 4), (1, (0, 1, 3, 3), ((), ()), ((), ())))

    def test_marks_are_sorted_each_as_often(self):
        crowd = ((0, 2, 1), (1, 3, 1), (1, 0, -1), (1, 3, -1), (1, 0, 1))
        self.assertEqual(view(("row", 2), crowd, 0), (2, (), ((0, 0, 3, 3),), ()))
        self.assertEqual(view(("row", 2), crowd, 1), (3, (0, 0, 3), (), ((2,),)))
        self.assertEqual(view(("row", 2), crowd, 2), (0, (0, 3, 3), ((2,),), ()))

    def test_senses_turn_ahead_and_behind_about(self):
        row = ((1, 0, 1), (0, 1, 1), (3, 2, 1))
        self.assertEqual(view(("row", 4), row, 0), (0, (), ((), (2,)), ((1,),)))
        about = ((1, 0, -1),) + row[1:]
        self.assertEqual(view(("row", 4), about, 0), (0, (), ((1,),), ((), (2,))))
        self.assertEqual(view(("ring", 5), row, 0), (0, (), ((), (2,), (), (1,)), ((1,), (), (2,), ())))
        self.assertEqual(view(("ring", 5), about, 0), (0, (), ((1,), (), (2,), ()), ((), (2,), (), (1,))))

    def test_nobody_sees_senses_of_others_nor_numbers(self):
        for floor in (("ring", 4), ("row", 4)):
            for senses in ((1, 1), (1, -1), (-1, 1), (-1, -1)):
                other = (THREE[0], (2, 0, senses[0]), (2, 3, senses[1]))
                self.assertEqual(view(floor, other, 0), view(floor, THREE, 0))

    def test_many_standings_on_all_floors(self):
        chance = random.Random(4)
        for floor in FLOORS:
            for _ in range(40):
                standing = random_standing(chance, floor)
                for walker in range(len(standing)):
                    self.assertEqual(view(floor, standing, walker), told_view(floor, standing, walker))

    def test_the_view_moves_with_the_floor(self):
        chance = random.Random(5)
        for floor in FLOORS:
            turns = floor[1] if floor[0] == "ring" else 1
            for _ in range(8):
                standing = random_standing(chance, floor)
                seen = [view(floor, standing, walker) for walker in range(len(standing))]
                for by in range(turns):
                    for is_mirrored in (False, True):
                        other = turned(floor, standing, by, is_mirrored)
                        self.assertEqual([view(floor, other, walker) for walker in range(len(other))], seen)

    def test_the_view_moves_with_the_numbers(self):
        standing = ((0, 1, 1), (2, 0, -1), (2, 3, 1), (1, 1, -1))
        for floor in (("ring", 5), ("row", 3)):
            for order in permutations(range(4)):
                other = tuple(standing[walker] for walker in order)
                for number, walker in enumerate(order):
                    self.assertEqual(view(floor, other, number), view(floor, standing, walker))

    def test_refusals(self):
        row = ("row", 3)
        for standing in BAD_STANDINGS:
            self.assert_refused(BadStanding, standing, view, row, standing, 0)
            self.assert_refused(BadStanding, standing, view, ("ring", 3), standing, 0)
        for standing in (((0, 0, 1),), ((0, 0, 1), (1, 1, 1)), ((2, 3, -1),) * 5):
            for walker in NO_NUMBERS + (-1, len(standing), len(standing) + 1, 99):
                self.assert_refused(BadWalker, walker, view, row, standing, walker)

    def test_standings_at_their_bounds(self):
        for floor in FLOORS:
            last = floor[1] - 1
            full = ((0, 0, 1), (last, 3, -1), (last, 3, -1), (0, 0, 1), (last, 0, 1))
            self.assertEqual(view(floor, full, 4), told_view(floor, full, 4))
            beyond = ((0, 0, 1), (last + 1, 0, 1))
            self.assert_refused(BadStanding, beyond, view, floor, beyond, 0)

    def test_several_wrong_at_once(self):
        self.assert_refused(BadFloor, 1, view, 1, 2, 3)
        standing = [(0, 0, 1)]
        self.assert_refused(BadStanding, standing, view, ("row", 1), standing, 3)


def all_views(floor, mark):
    """All VIEWS of walkers with this mark on this floor, by all standings."""
    kinds = [(place, other, 1) for place in range(floor[1]) for other in range(4)]
    found = set()
    for many in range(5):
        for others in combinations_with_replacement(kinds, many):
            for place in range(floor[1]):
                found.add(told_view(floor, ((place, mark, 1),) + others, 0))
                found.add(told_view(floor, ((place, mark, -1),) + others, 0))
    return found


def changed(chance, seen):
    """Nearly this VIEW: some tuples of it are changed."""
    mark, here, ahead, behind = seen
    cells = [list(here), *[list(cell) for cell in ahead], *[list(cell) for cell in behind]]
    cell = chance.choice(cells)
    way = chance.randrange(6)
    if way == 0:
        cell.append(chance.randrange(4))
    if way == 1 and cell:
        cell.pop(chance.randrange(len(cell)))
    if way == 2:
        cell.sort(reverse=chance.random() < 0.5)
    if way == 3:
        cells.insert(chance.randrange(len(cells) + 1), [])
    if way == 4 and len(cells) > 1:
        cells.pop()
    if way == 5:
        chance.shuffle(cells)
    told = [tuple(part) for part in cells]
    cut = max(0, len(ahead) + chance.choice((0, 0, 0, 1, -1))) + 1
    return (mark, told[0], tuple(told[1:cut]), tuple(told[cut:]))


class IsViewTest(Refusals, unittest.TestCase):
    def assert_view(self, floor, value, expected):
        """is_view tells just this bool."""
        self.assertIs(is_view(floor, value), expected, (floor, value))

    def test_the_example(self):
        some = [
            (0, (), ((1,), ()), ((), (1,))),
            (0, (), ((1,), ()), ((1,), ())),
            (0, (3, 1), ((), ()), ((), ())),
            (4, (), ((), ()), ((), ())),
        ]
        told = [[is_view(floor, value) for value in some] for floor in (("ring", 3), ("row", 5))]
        self.assertEqual(told, [[True, False, False, False], [True, True, False, False]])

    def test_what_view_tells_is_one_on_this_floor(self):
        chance = random.Random(6)
        for floor in FLOORS:
            for _ in range(30):
                standing = random_standing(chance, floor)
                for walker in range(len(standing)):
                    self.assert_view(floor, view(floor, standing, walker), True)

    def test_all_views_and_only_these_on_small_floors(self):
        chance = random.Random(7)
        for floor in (("row", 1), ("row", 2), ("row", 3), ("ring", 3)):
            views = all_views(floor, 2)
            ordered = sorted(views)
            for seen in ordered:
                self.assert_view(floor, seen, True)
            for _ in range(6000):
                seen = changed(chance, chance.choice(ordered))
                self.assert_view(floor, seen, seen in views)

    def test_on_other_floors_it_is_none(self):
        for floor in FLOORS:
            seen = view(floor, ((0, 0, 1),), 0)
            for other in FLOORS:
                same = floor[0] == other[0] and floor[1] == other[1]
                # Twice n - 1 cells of a ring of n are just those of a row of 2 * n - 1.
                same = same or floor[0] == "ring" and other == ("row", 2 * floor[1] - 1)
                self.assert_view(other, seen, same)

    def test_own_marks(self):
        for mark in (0, 1, 2, 3):
            self.assert_view(("row", 1), (mark, (), (), ()), True)
        for mark in NO_NUMBERS + (-1, 4, 99):
            self.assert_view(("row", 1), (mark, (), (), ()), False)

    def test_marks_of_others(self):
        for mark in (0, 1, 2, 3):
            self.assert_view(("row", 2), (0, (mark,), ((),), ()), True)
            self.assert_view(("row", 2), (0, (), ((mark,),), ()), True)
            self.assert_view(("row", 2), (0, (), (), ((mark,),)), True)
        for mark in NO_NUMBERS + (-1, 4, 99):
            self.assert_view(("row", 2), (0, (mark,), ((),), ()), False)
            self.assert_view(("row", 2), (0, (), ((mark,),), ()), False)
            self.assert_view(("row", 2), (0, (), (), ((mark,),)), False)
            self.assert_view(("ring", 3), (0, (), ((mark,), ()), ((), (mark,))), False)

    def test_behind_is_ahead_turned_about_on_a_ring(self):
        ring = ("ring", 4)
        self.assert_view(ring, (0, (), ((1,), (), (2, 3)), ((2, 3), (), (1,))), True)
        self.assert_view(ring, (0, (), ((1,), (), (2, 3)), ((1,), (), (2, 3))), False)
        self.assert_view(ring, (0, (), ((1,), (), ()), ((), (), ())), False)
        self.assert_view(ring, (0, (), ((), (), ()), ((), (1,), ())), False)
        self.assert_view(ring, (0, (), ((1,), (), ()), ((), (), (2,))), False)
        self.assert_view(ring, (0, (), ((True,), (), ()), ((), (), (1,))), False)
        self.assert_view(ring, (0, (), ((1,), (), ()), ((), (), (True,))), False)

    def test_too_many_and_too_few_cells(self):
        for many in range(10):
            cells = ((),) * many
            self.assert_view(("ring", 5), (0, (), cells, cells), many == 4)
            self.assert_view(("ring", 5), (0, (), cells, ((),) * 4), many == 4)
            self.assert_view(("ring", 5), (0, (), ((),) * 4, cells), many == 4)
            for ahead in range(many + 1):
                self.assert_view(("row", 6), (0, (), cells[:ahead], cells[ahead:]), many == 5)

    def test_unsorted_cells(self):
        row = ("row", 2)
        self.assert_view(row, (0, (1, 2, 2), ((3,),), ()), True)
        self.assert_view(row, (0, (2, 1), ((),), ()), False)
        self.assert_view(row, (0, (), ((1, 0),), ()), False)
        self.assert_view(row, (0, (), (), ((1, 1, 0),)), False)
        self.assert_view(("ring", 3), (0, (), ((1, 0), ()), ((), (1, 0))), False)

    def test_four_others_and_five(self):
        self.assert_view(("row", 1), (0, (0, 0, 0, 0), (), ()), True)
        self.assert_view(("row", 1), (0, (0, 0, 0, 0, 0), (), ()), False)
        row = ("row", 3)
        self.assert_view(row, (0, (0,), ((1, 1),), ((3,),)), True)
        self.assert_view(row, (0, (0, 0), ((1, 1),), ((3,),)), False)
        self.assert_view(row, (0, (0,), ((1, 1, 2),), ((3,),)), False)
        self.assert_view(row, (0, (), ((1, 1),), ((0, 0, 3),)), False)
        ring = ("ring", 3)
        self.assert_view(ring, (0, (2,), ((0, 1), (3,)), ((3,), (0, 1))), True)
        self.assert_view(ring, (0, (), ((0, 1, 1), (3,)), ((3,), (0, 1, 1))), True)
        self.assert_view(ring, (0, (2, 2), ((0, 1), (3,)), ((3,), (0, 1))), False)
        self.assert_view(ring, (0, (), ((0, 1, 1), (3, 3)), ((3, 3), (0, 1, 1))), False)

    def test_any_value(self):
        nested = ()
        for _ in range(60):
            nested = (nested,)
        empty = ((), ())
        values = NO_NUMBERS + (
            0, 1, nested, [nested], (0,), (0, ()), (0, (), empty), (0, (), empty, empty, ()), [0, (), empty, empty],
            (0, [], empty, empty), (0, (), [(), ()], empty), (0, (), empty, [(), ()]), (0, (), ([], ()), ((), [])),
            (0, (), ((), []), ([], ())), (0, None, empty, empty), (0, (), None, empty), (0, (), empty, None),
            (0, (), 0, 0), (0, 0, empty, empty), (0, "", empty, empty), (0, (), "ab", "ba"),
            (0, (), ("", ""), ("", "")),
            (0, ((),), empty, empty), (0, (), (((),), ()), ((), ((),))), (0, (), nested, nested), (nested,) * 4,
            (0, {}, empty, empty), (0, (), {}, {}), {0: 0, 1: (), 2: empty, 3: empty}, (None,) * 4, tuple("abcd"),
            (0, (None,), empty, empty), (0, (1, "2"), empty, empty), (0, ("1", 2), empty, empty),
            (0, (1, None), empty, empty), (0, ([],), empty, empty), (0, (), ((None,), ()), ((), (None,))),
        )
        for floor in (("ring", 3), ("row", 5)):
            self.assert_view(floor, (0, (), empty, empty), True)
            for value in values:
                self.assert_view(floor, value, False)

    def test_arguments_stay_as_they_are(self):
        value = [0, [], [[]], {"a": [1]}]
        is_view(("row", 2), value)
        self.assertEqual(value, [0, [], [[]], {"a": [1]}])


if __name__ == "__main__":
    unittest.main()

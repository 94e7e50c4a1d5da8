"""Point 9: told runs, and what guarantees (a), (b), (c) and (h) tell of them."""

import random
import unittest

from onestillview.beats import is_kind, run
from onestillview.errors import BadFloor, BadLog, BadLots, BadMany, BadNumber, BadStanding, BadWalker, NoProgram
from onestillview.errors import NotFine
from onestillview.floors import turned, view
from onestillview.lamps import Lit, fine_rule, lit_of
from onestillview.texts import Program
from onestillview.told import is_grown, is_told, pending, settled, times, told_at, told_lots, told_run, views_of
from tests.helpers import BAD_FLOORS, BAD_STANDINGS, NO_NUMBERS, NO_PROGRAMS, NO_TUPLES, STILL
from tests.helpers import Refusals, random_start, random_ways, refusal, renumbered
from tests.models import BAD_DEEDS, NO_WALKERS, random_log, told_of
from tests.tellers import ALL_BUT_FINE, FINE, Teller, eager_log, told_behind

FORTH = Program("marks 2\nstep ahead\nmark plus mine 1")
RING = ("ring", 5)
FIRST = ((0, 0, 1), (2, 0, 1))
# None of these is LOTS of walkers from 0 to 4.
NO_LOTS = NO_TUPLES + (
    (0,), (0, 1), ((),), ((5,),), ((-1,),), ((0, 5),), ((0, 0),), ((1, 0),), ((True,),), ((False, 1),), ([0],), [(0,)],
    ((0,), None), ((0,), ()), (((0,),),), ((0,), 1), (("0",),), ((None,),), (STILL,), ((STILL,),), {(0,): 1},
    ((0, 1, 2, 3, 4, 5),), ((123456789,),),
)


def new_lit(log=()):
    """The Lit of the document's example behind these deeds."""
    return lit_of(FORTH, RING, FIRST, FINE, log)


def cycles(*walkers):
    """The deeds of these walkers, who go one behind another."""
    return tuple((word, walker) for walker in walkers for word in ("look", "think", "step"))


def random_run(chance, many, length):
    """(program, floor, first, log): a log of about so many deeds by so many walkers with the fine rule."""
    while True:
        program, floor, first = random_start(chance)
        if len(first) >= many:
            break
    return program, floor, first[:many], eager_log(chance, program, floor, first[:many], length)


def told_functions(lit):
    """All that the functions tell of a Lit."""
    lots = told_lots(lit)
    return (
        lots, told_run(lit), pending(lit), [views_of(lit, number) for number in range(len(lots))],
        [times(lit, walker) for walker in range(len(lit.first))], settled(lit),
    )


class ExamplesTest(unittest.TestCase):
    def test_one_lot(self):
        lit = new_lit(cycles(0, 1, 0, 1))
        self.assertEqual((lit.lamps, told_lots(lit), len(lit)), (("go", "go"), (), 12))
        for deed in (("look", 0), ("look", 1), ("think", 0), ("step", 0)):
            lit.do(deed)
        self.assertEqual((lit.lamps, told_lots(lit)), (("step", "go"), ((0, 1),)))
        self.assertEqual((lit.standing, pending(lit)), (((1, 1, 1), (2, 0, 1)), ((1, "look"),)))
        self.assertEqual(told_run(lit), (((0, 0, 1), (2, 0, 1)), ((1, 1, 1), (3, 1, 1))))
        self.assertEqual(views_of(lit, 0)[1], (1, (0, (), ((), (), (0,), ()), ((), (0,), (), ()))))
        self.assertEqual((times(lit, 0), times(lit, 1)), (((12, 14, 15),), ((13, None, None),)))
        self.assertEqual(told_at(lit, 13), ((0,),))
        behind = settled(lit)
        self.assertEqual((behind.standing, len(behind), len(lit)), (((1, 1, 1), (3, 1, 1)), 18, 16))
        self.assertIs(is_grown(((0,),), ((0, 1), (0,))), True)
        self.assertIs(is_grown(((0, 1),), ((0,), (1,))), False)
        self.assertIs(is_told(FORTH, RING, FIRST, lit.log, ((0,),)), False)
        self.assertIs(is_told(FORTH, RING, FIRST, lit.log, ((0, 1),)), True)

    def test_two_lots(self):
        lit = new_lit(cycles(0, 1, 0, 1, 0, 0, 1, 0, 1, 0, 1, 0, 1))
        self.assertEqual((told_lots(lit), lit.standing), (((0,), (1,)), ((1, 1, 1), (3, 1, 1))))
        self.assertIs(is_told(FORTH, RING, FIRST, lit.log, ((0,), (1,))), True)


class EdgesTest(unittest.TestCase):
    def test_without_deeds(self):
        for many in range(1, 6):
            first = tuple((place % 3, 0, 1) for place in range(many))
            lit = Lit(FORTH, RING, first, FINE)
            self.assertEqual(told_functions(lit), ((), (first,), (), [], [()] * many, lit))
            self.assertEqual(told_at(lit, 0), ())
            self.assertIs(is_told(FORTH, RING, first, (), ()), True)
            self.assertIs(is_told(FORTH, RING, first, (), ((0,),)), False)

    def test_the_first_step_look_is_the_last_deed(self):
        log = cycles(0, 1, 1, 0) + (("look", 1),)
        lit = new_lit(log)
        self.assertEqual((told_lots(lit), pending(lit)), (((1,),), ((1, "look"),)))
        self.assertEqual([told_at(lit, many) for many in range(14)], [()] * 13 + [((1,),)])
        self.assertEqual((times(lit, 0), times(lit, 1)), ((), ((12, None, None),)))
        self.assertEqual(views_of(lit, 0), ((1, view(RING, FIRST, 1)),))
        self.assertEqual((lit.standing, told_run(lit)), (FIRST, (FIRST, ((0, 0, 1), (3, 1, 1)))))
        self.assertEqual(settled(lit).log, log + (("think", 1), ("step", 1)))
        self.assertEqual(settled(lit).standing, ((0, 0, 1), (3, 1, 1)))

    def test_looks_for_other_changes_are_no_step_looks(self):
        self.assertEqual(told_lots(new_lit(cycles(0, 1, 0, 1))), ())
        # Walker 1 looks for a step, and then again, behind its step, for done.
        lit = new_lit(cycles(0, 1, 0, 1, 1, 1))
        self.assertEqual((told_lots(lit), times(lit, 1), lit.lamps), (((1,),), ((12, 13, 14),), ("go", "step")))

    def test_a_round_goes_on_until_a_step_deed(self):
        log = cycles(0, 1, 0, 1) + (("look", 0), ("think", 0))
        # Its lamp is seen already, so walker 1 doesn't look for a step any more.
        self.assertEqual(told_lots(new_lit(log + (("look", 1),))), ((0,),))
        self.assertEqual(pending(new_lit(log)), ((0, "step"),))
        self.assertEqual(times(new_lit(log), 0), ((12, 13, None),))
        both = cycles(0, 1, 0, 1) + (("look", 1), ("look", 0), ("think", 0), ("step", 0))
        self.assertEqual(told_lots(new_lit(both)), ((0, 1),))
        told = [told_at(new_lit(both), many) for many in (12, 13, 14, 15, 16)]
        self.assertEqual(told, [(), ((1,),), ((0, 1),), ((0, 1),), ((0, 1),)])
        self.assertEqual([walker for walker, _ in views_of(new_lit(both), 0)], [0, 1])
        behind = both + (("think", 1),)
        self.assertEqual(pending(new_lit(behind)), ((1, "step"),))
        self.assertEqual(settled(new_lit(behind)).log, behind + (("step", 1),))
        self.assertEqual(settled(new_lit(both)).log, both + (("think", 1), ("step", 1)))

    def test_settled_goes_ascending(self):
        log = cycles(0, 1, 0, 1) + (("look", 1), ("look", 0))
        lit = new_lit(log)
        self.assertEqual(pending(lit), ((0, "look"), (1, "look")))
        self.assertEqual(settled(lit).log, log + (("think", 0), ("step", 0), ("think", 1), ("step", 1)))
        lit.think(1)
        self.assertEqual(pending(lit), ((0, "look"), (1, "step")))
        self.assertEqual(settled(lit).log, log + (("think", 1), ("think", 0), ("step", 0), ("step", 1)))

    def test_settled_leaves_who_is_not_pending(self):
        lit = new_lit(cycles(0, 1, 0, 1) + (("look", 0), ("think", 0), ("look", 1)))
        self.assertEqual(settled(lit).stages, ("idle", "looked"))
        self.assertEqual(settled(lit).log, lit.log + (("step", 0),))
        alone = new_lit((("look", 0),))
        self.assertEqual(settled(alone), alone)

    def test_settled_is_by_itself(self):
        lit = new_lit(cycles(0, 1, 0, 1) + (("look", 0),))
        told, behind = told_of(lit), settled(lit)
        self.assertEqual(told_of(lit), told)
        behind.go(1)
        self.assertEqual((told_of(lit), told_lots(lit)), (told, ((0,),)))
        without = settled(new_lit())
        without.go(0)
        self.assertEqual(len(new_lit()), 0)

    def test_a_copy_tells_the_same(self):
        chance = random.Random(90)
        program, floor, first, log = random_run(chance, 3, 120)
        for many in range(len(log) + 1):
            lit = lit_of(program, floor, first, FINE, log[:many])
            self.assertEqual(told_functions(lit.copy()), told_functions(lit))

    def test_kinds_of_what_is_told(self):
        lit = new_lit(cycles(0, 1, 0, 1) + (("look", 0), ("look", 1)))
        for value in (told_lots(lit), told_lots(lit)[0], told_run(lit), told_at(lit, 13), views_of(lit, 0),
                      views_of(lit, 0)[0], pending(lit), pending(lit)[0], times(lit, 0), times(lit, 0)[0]):
            self.assertIs(type(value), tuple)
        self.assertIs(type(settled(lit)), Lit)


class AgainstTheTellerTest(unittest.TestCase):
    def assert_as_told(self, lit, teller):
        """The functions tell of the Lit what the teller does, and the run is right."""
        lots, standings = teller.lots(), teller.standings()
        self.assertEqual(told_lots(lit), lots)
        self.assertEqual(told_at(lit, len(lit)), lots)
        self.assertTrue(is_kind("eras", len(lit.first), lots))
        self.assertEqual(told_run(lit), standings)
        self.assertEqual(told_run(lit), run(lit.program, lit.floor, lit.first, lots))
        self.assertEqual(pending(lit), teller.pending())
        for number, lot in enumerate(lots):
            self.assertEqual(views_of(lit, number), teller.views(number))
            seen = tuple((walker, view(lit.floor, standings[number], walker)) for walker in lot)
            self.assertEqual(views_of(lit, number), seen)
        for walker in range(len(lit.first)):
            self.assertEqual(times(lit, walker), teller.times(walker))
        self.assertEqual(lit.standing, teller.standing_of_run())
        self.assertEqual(settled(lit).standing, standings[-1])
        self.assertEqual(pending(settled(lit)), ())
        self.assertEqual(told_lots(settled(lit)), lots)

    def test_each_moment_of_many_runs(self):
        chance = random.Random(91)
        many_lots = 0
        for number in range(40):
            program, floor, first, log = random_run(chance, 1 + number % 4, chance.choice((40, 150, 220)))
            lit, teller = Lit(program, floor, first, FINE), Teller(program, floor, first)
            told = [()]
            for word, walker in log:
                lit.do((word, walker))
                self.assertTrue(teller.do(word, walker))
                self.assert_as_told(lit, teller)
                told.append(told_lots(lit))
                self.assertTrue(is_grown(told[-2], told[-1]))
                self.assertIn(len(told[-1]) - len(told[-2]), (0, 1))
            self.assertEqual([told_at(lit, many) for many in range(len(lit) + 1)], told)
            self.assertIs(is_told(program, floor, first, log, told[-1]), True)
            many_lots += len(told[-1])
        self.assertGreater(many_lots, 120)

    def test_each_moment_up_to_each_moment(self):
        chance = random.Random(92)
        for many in (1, 2, 3, 4):
            program, floor, first, log = random_run(chance, many, 90)
            lit, told = Lit(program, floor, first, FINE), [()]
            for deed in log:
                lit.do(deed)
                told.append(told_lots(lit))
                self.assertEqual([told_at(lit, moment) for moment in range(len(told))], told)

    def test_deeds_as_they_come(self):
        chance = random.Random(93)
        for number in range(30):
            program, floor, first = random_start(chance)
            log = random_log(chance, len(first), 200)
            lit, teller = lit_of(program, floor, first, FINE, log), told_behind(program, floor, first, log)
            self.assert_as_told(lit, teller)

    def test_lots_of_several_walkers_come_about(self):
        chance = random.Random(94)
        sizes = set()
        for _ in range(30):
            program, floor, first, log = random_run(chance, 4, 250)
            sizes.update(len(lot) for lot in told_lots(lit_of(program, floor, first, FINE, log)))
        self.assertEqual(sizes, {1, 2, 3, 4})

    def test_many_eras(self):
        chance = random.Random(95)
        program, floor, first, log = random_run(chance, 2, 1200)
        lots = told_lots(lit_of(program, floor, first, FINE, log))
        self.assertGreater(len(lots), 20)
        self.assertTrue(is_kind("eras", 2, lots))

    def test_turned_and_mirrored(self):
        chance = random.Random(96)
        for _ in range(30):
            program, floor, first, log = random_run(chance, 3, 120)
            way = random_ways(chance, floor)
            one = told_functions(lit_of(program, floor, first, FINE, log))
            other = told_functions(lit_of(program, floor, turned(floor, first, *way), FINE, log))
            self.assertEqual(other[1], tuple(turned(floor, standing, *way) for standing in one[1]))
            self.assertEqual((other[0], other[2:5]), (one[0], one[2:5]))

    def test_walkers_numbered_otherwise(self):
        chance = random.Random(97)
        for _ in range(30):
            program, floor, first, log = random_run(chance, 4, 160)
            order = chance.sample(range(4), 4)
            numbers = [order.index(walker) for walker in range(4)]
            one = lit_of(program, floor, first, FINE, log)
            renamed = tuple((word, numbers[walker]) for word, walker in log)
            other = lit_of(program, floor, renumbered(first, order), FINE, renamed)
            lots = tuple(tuple(sorted(numbers[walker] for walker in lot)) for lot in told_lots(one))
            self.assertEqual(told_lots(other), lots)
            self.assertEqual(told_run(other), tuple(renumbered(standing, order) for standing in told_run(one)))
            self.assertEqual(pending(other), tuple(sorted((numbers[walker], word) for walker, word in pending(one))))
            for number in range(len(lots)):
                views = tuple(sorted((numbers[walker], seen) for walker, seen in views_of(one, number)))
                self.assertEqual(views_of(other, number), views)
            for walker in range(4):
                self.assertEqual(times(other, numbers[walker]), times(one, walker))


class IsGrownTest(Refusals, unittest.TestCase):
    def test_those_that_have(self):
        grown = (
            ((), ()), ((), ((0,),)), ((), ((0, 4), (1,))), (((0,),), ((0,),)), (((0,),), ((0, 1),)),
            (((1,),), ((0, 1, 2),)), (((0,),), ((0,), (0,))), (((0,),), ((0, 3), (1,), (0, 1, 2, 3, 4))),
            (((0,), (1,)), ((0,), (1, 2))), (((0, 1), (2,), (3,)), ((0, 1), (2,), (2, 3, 4), (0,))),
            (((1, 3),), ((0, 1, 2, 3, 4),)),
        )
        for one, other in grown:
            self.assertIs(is_grown(one, other), True, (one, other))

    def test_those_that_have_not(self):
        bent = (
            (((0,),), ()), (((0,),), ((1,),)), (((0, 1),), ((0,),)), (((0, 1),), ((0,), (1,))), (((0,), (1,)), ((0,),)),
            (((0,), (1,)), ((0, 1),)), (((0,), (1,)), ((0, 2), (1,))), (((0,), (1,)), ((0,), (0,))),
            (((0, 1), (2,)), ((0,), (2,))), (((0,), (1,), (2,)), ((0,), (1, 3), (2,))), (((0,), (1,)), ((0,), (0, 2))),
            (((0,), (1,), (2,)), ((1,), (0,), (2,))), (((0, 4),), ((0, 1, 2, 3),)),
        )
        for one, other in bent:
            self.assertIs(is_grown(one, other), False, (one, other))

    def test_what_is_no_lots(self):
        for value in NO_LOTS:
            self.assert_refused(BadLots, value, is_grown, value, ())
            self.assert_refused(BadLots, value, is_grown, (), value)
            self.assert_refused(BadLots, value, is_grown, ((0,), (1,)), value)
        first, second = [0], [0]
        self.assert_refused(BadLots, first, is_grown, first, second)

    def test_lots_need_not_be_in_eras(self):
        self.assertIs(is_grown(((0,), (0,)), ((0,), (0, 4), (0,))), True)


class IsToldTest(Refusals, unittest.TestCase):
    def test_lots_bent_a_little(self):
        chance = random.Random(98)
        for _ in range(20):
            program, floor, first, log = random_run(chance, 3, 200)
            lots = told_lots(lit_of(program, floor, first, FINE, log))
            self.assertIs(is_told(program, floor, first, log, lots), True)
            bent = [lots + ((0,),), ((0,),) + lots, (), list(lots), lots + ((),), tuple(list(lot) for lot in lots)]
            for number, lot in enumerate(lots):
                bent.append(lots[:number] + lots[number + 1:])
                bent.append(lots[:number] + (tuple(sorted({0, 1, 2} - set(lot))),) + lots[number + 1:])
                bent.append(lots[:number] + (lot + (4,),) + lots[number + 1:])
                bent.append(lots[:number] + tuple((walker,) for walker in lot) + lots[number + 1:])
            for value in bent:
                self.assertIs(is_told(program, floor, first, log, value), value == lots, value)

    def test_bools_are_no_walkers(self):
        log = cycles(0, 1, 0, 1) + (("look", 0), ("look", 1))
        self.assertIs(is_told(FORTH, RING, FIRST, log, ((0, 1),)), True)
        self.assertIs(is_told(FORTH, RING, FIRST, log, ((False, True),)), False)
        self.assertIs(is_told(FORTH, RING, FIRST, log, ((0, True),)), False)

    def test_any_value(self):
        log = cycles(0, 1, 0, 1) + (("look", 0),)
        for value in NO_LOTS + ("told", new_lit(), new_lit(log), [[0]], {0: 0}):
            self.assertIs(is_told(FORTH, RING, FIRST, log, value), False, value)

    def test_logs_that_are_none(self):
        for log in (None, True, 0, "", [], list(cycles(0)), {}, new_lit(), FORTH):
            self.assertEqual(refusal(is_told, FORTH, RING, FIRST, log, ()), (BadLog, None))
        for deed in BAD_DEEDS:
            self.assert_numbered(BadLog, 3, is_told, FORTH, RING, FIRST, cycles(1) + (deed, None), ())
        for walker in NO_WALKERS:
            self.assert_numbered(BadLog, 0, is_told, FORTH, RING, FIRST, (("look", walker),), None)
        self.assert_numbered(BadLog, 1, is_told, FORTH, RING, FIRST, (("look", 0), ("look", 0)), ())
        self.assert_numbered(BadLog, 2, is_told, FORTH, RING, FIRST, (("look", 0), ("look", 1), ("step", 0)), ())

    def test_refusals(self):
        for program in NO_PROGRAMS:
            self.assert_refused(NoProgram, program, is_told, program, RING, FIRST, (), ())
        for floor in BAD_FLOORS:
            self.assert_refused(BadFloor, floor, is_told, FORTH, floor, FIRST, (), ())
        four = Program("marks 4\nstep 0\nmark 0")
        for standing in BAD_STANDINGS:
            self.assert_refused(BadStanding, standing, is_told, four, ("row", 3), standing, (), ())
        marked = ((0, 2, 1),)
        self.assert_refused(BadStanding, marked, is_told, FORTH, RING, marked, (), ())

    def test_several_wrong_at_once(self):
        program, floor, standing, log = [0], [1], [2], [3]
        self.assert_refused(NoProgram, program, is_told, program, floor, standing, log, None)
        self.assert_refused(BadFloor, floor, is_told, FORTH, floor, standing, log, None)
        self.assert_refused(BadStanding, standing, is_told, FORTH, RING, standing, log, None)
        self.assertEqual(refusal(is_told, FORTH, RING, FIRST, log, None), (BadLog, None))


class RefusalsTest(Refusals, unittest.TestCase):
    def test_other_rules_ahead_of_all_else(self):
        for rule in ALL_BUT_FINE:
            for log in ((), cycles(0, 1, 0, 1)):
                lit = lit_of(FORTH, RING, FIRST, rule, log)
                for call in (told_lots, told_run, pending, settled):
                    self.assert_refused(NotFine, lit.rule, call, lit)
                for call in (told_at, views_of, times):
                    for wrong in (0, 99, None, [0]):
                        self.assert_refused(NotFine, lit.rule, call, lit, wrong)

    def test_an_equal_rule_is_fine(self):
        rule = tuple((tuple(list(some)), tuple(list(none))) for some, none in fine_rule())
        lit = lit_of(FORTH, RING, FIRST, rule, cycles(0, 1, 0, 1, 0))
        self.assertEqual((told_lots(lit), times(lit, 0), told_at(lit, 12)), (((0,),), ((12, 13, 14),), ()))

    def test_moments(self):
        for log in ((), cycles(0, 1)):
            lit = new_lit(log)
            self.assertEqual(told_at(lit, len(log)), ())
            for many in NO_NUMBERS + (-1, len(log) + 1, 99, -123456789, 123456789):
                self.assert_refused(BadMany, many, told_at, lit, many)

    def test_rounds(self):
        for number in NO_NUMBERS + (-1, 0, 1):
            self.assert_refused(BadNumber, number, views_of, new_lit(), number)
        lit = new_lit(cycles(0, 1, 0, 1, 0, 0, 1, 0, 1, 0, 1, 0, 1))
        for number in NO_NUMBERS + (-1, -2, 2, 3, 123456789):
            self.assert_refused(BadNumber, number, views_of, lit, number)

    def test_walkers(self):
        for log in ((), cycles(0, 1, 0, 1, 0)):
            for walker in NO_WALKERS:
                self.assert_refused(BadWalker, walker, times, new_lit(log), walker)

    def test_nothing_is_changed(self):
        lit = new_lit(cycles(0, 1, 0, 1) + (("look", 1), ("look", 0), ("think", 0)))
        told, other = told_of(lit), lit.copy()
        for _ in range(2):
            told_functions(lit)
            told_at(lit, 3)
        for call in (told_at, views_of, times):
            refusal(call, lit, 99)
        self.assertEqual((told_of(lit), lit), (told, other))


if __name__ == "__main__":
    unittest.main()

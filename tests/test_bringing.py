"""Point 10: told LOTS brought about, and guarantee (d)."""

import random
import unittest
from itertools import product

from onestillview.beats import is_kind, run
from onestillview.bringing import brought, deeds_of, least_deeds, shows_brought
from onestillview.errors import BadFloor, BadLots, BadMany, BadSizes, BadStanding, NoProgram
from onestillview.lamps import fine_rule, lit_of
from onestillview.texts import Program
from onestillview.told import pending, told_lots, told_run
from tests.helpers import BAD_FLOORS, BAD_STANDINGS, NO_NUMBERS, NO_PROGRAMS, NO_TUPLES, STILL
from tests.helpers import Refusals, random_eras, random_start
from tests.models import BAD_DEEDS, CHANGES, told_due
from tests.tellers import FINE, told_behind

FORTH = Program("marks 2\nstep 1\nmark plus mine 1")
RING = ("ring", 4)
FIRST = ((0, 0, 1), (2, 0, -1))
LOTS = ((1,), (0,), (0, 1))
# None of these is LOTS of kind eras for two walkers.
NO_ERAS = NO_TUPLES + (
    (0,), (0, 1), ((),), ((2,),), ((-1,),), ((0, 2),), ((0, 0),), ((1, 0),), ((True,),), ((False, 1),), ([0],), [(0,)],
    ((0,), (0,)), ((0,), (0, 1)), ((0, 1), (1,), (1,)), ((0,), (1,), (0,), (0,)), ((0,), None), (((0,),),), (STILL,),
)


def one_era(lots, many):
    """(lot, how many are left ahead of it) of LOTS in eras."""
    found, missing = [], many
    for lot in lots:
        found.append((lot, missing))
        missing = missing - len(lot) or many
    return found


def counted_deeds(many, lots):
    """How many deeds the lots need, change by change, as the document counts them."""
    deeds = 0
    rows = one_era(lots, many)
    for number, (lot, missing) in enumerate(rows):
        is_last = number == len(rows) - 1
        # Tries, goes, steps; then those of the lot are done, and the others wait.
        deeds += 3 * (missing + missing + len(lot))
        if not is_last:
            deeds += 3 * len(lot) + 3 * (missing - len(lot))
            if missing == len(lot):
                deeds += 3 * many + 3 * many
        else:
            deeds -= many - len(lot)
    return deeds


class Search:
    """The fewest deeds by which LOTS are told of few walkers by the fine rule, with nobody pending."""

    def __init__(self, many, lots):
        self.many, self.lots = many, [set(lot) for lot in lots]

    def fewest(self):
        """How many deeds these are."""
        # For each walker its lamp and what it holds; how many rounds there are, who is in the last, is it over.
        begin = ((("wait", None),) * self.many, 0, frozenset(), True)
        seen, fresh, deeds = {begin}, [begin], 0
        while fresh:
            if any(self.is_told(state) for state in fresh):
                return deeds
            later = []
            for state in fresh:
                for walker in range(self.many):
                    behind = self.behind(state, walker)
                    if behind is not None and behind not in seen:
                        seen.add(behind)
                        later.append(behind)
            fresh, deeds = later, deeds + 1
        return None

    def is_told(self, state):
        """Whether the LOTS are told in this state, and nobody is pending."""
        entries, rounds, members, _ = state
        if rounds < len(self.lots) or rounds and members != self.lots[-1]:
            return False
        return not any(holds in (("looked", 2), ("thought", True)) for _, holds in entries)

    def behind(self, state, walker):
        """The state behind the walker's next deed, None where other LOTS are told."""
        entries, rounds, members, is_over = state
        lamp, holds = entries[walker]
        if holds is None:
            number = told_due(FINE, lamp, [entry[0] for at, entry in enumerate(entries) if at != walker])
            entry = (lamp, ("looked", number))
            if number == 2:
                if is_over and rounds and members != self.lots[rounds - 1]:
                    return None
                rounds, members = (rounds + 1, frozenset()) if is_over else (rounds, members)
                if rounds > len(self.lots) or walker not in self.lots[rounds - 1]:
                    return None
                members, is_over = members | {walker}, False
        elif holds[0] == "looked":
            entry = (lamp if holds[1] is None else CHANGES[holds[1]][1], ("thought", holds[1] == 2))
        else:
            entry, is_over = (lamp, None), is_over or holds[1]
        return entries[:walker] + (entry,) + entries[walker + 1:], rounds, members, is_over


def some_eras(many, longest):
    """All LOTS of kind eras of so many walkers, at most so many lots."""
    single = [lot for number in range(1, 2 ** many) for lot in [tuple(w for w in range(many) if number >> w & 1)]]
    for length in range(longest + 1):
        for lots in product(single, repeat=length):
            if is_kind("eras", many, lots):
                yield lots


class BroughtTest(Refusals, unittest.TestCase):
    def assert_brought(self, program, floor, first, lots):
        """A Lit does the log that is brought, tells these LOTS, and stands as the run does; the log is told back."""
        log = brought(program, floor, first, lots)
        self.assertIs(type(log), tuple)
        lit = lit_of(program, floor, first, fine_rule(), log)
        self.assertEqual((told_lots(lit), pending(lit)), (lots, ()))
        self.assertEqual(lit.standing, run(program, floor, first, lots)[-1])
        self.assertEqual(told_run(lit), run(program, floor, first, lots))
        teller = told_behind(program, floor, first, log)
        self.assertEqual((teller.lots(), teller.pending()), (lots, ()))
        many = len(first)
        self.assertEqual(len(log), least_deeds(many, lots))
        self.assertEqual(len(log), deeds_of(many, tuple(len(lot) for lot in lots)))
        self.assertEqual(len(log), counted_deeds(many, lots))
        self.assertIs(shows_brought(program, floor, first, lots, log), True)
        return log

    def test_the_example(self):
        log = self.assert_brought(FORTH, RING, FIRST, LOTS)
        self.assertEqual((len(log), least_deeds(2, LOTS)), (63, 63))
        self.assertEqual(run(FORTH, RING, FIRST, LOTS)[-1], ((2, 1, 1), (0, 1, -1)))
        values = (log, log + (("look", 0),), log[:-1], LOTS)
        shown = [shows_brought(FORTH, RING, FIRST, LOTS, value) for value in values]
        self.assertEqual(shown, [True, True, False, False])

    def test_no_lots(self):
        for many in range(1, 6):
            first = ((0, 0, 1),) * many
            self.assertEqual(self.assert_brought(FORTH, RING, first, ()), ())

    def test_all_short_ones(self):
        for many, longest in ((1, 5), (2, 5), (3, 3), (4, 2)):
            first = tuple((place, 0, 1) for place in range(many))
            for lots in some_eras(many, longest):
                self.assert_brought(FORTH, RING, first, lots)

    def test_drawn_ones(self):
        chance = random.Random(101)
        for number in range(150):
            program, floor, first = random_start(chance)
            self.assert_brought(program, floor, first, random_eras(chance, len(first), 12))

    def test_many_eras_of_five(self):
        first = tuple((place, 0, (-1) ** place) for place in range(5))
        single = tuple((walker,) for walker in (3, 1, 4, 0, 2))
        for lots in (((0, 1, 2, 3, 4),) * 5, single * 3, single * 2 + ((1, 3), (0, 2, 4), (4,))):
            self.assert_brought(FORTH, ("row", 5), first, lots)

    def test_others_may_hold_something(self):
        log = brought(FORTH, RING, FIRST, ((0,),))
        lit = lit_of(FORTH, RING, FIRST, FINE, log)
        self.assertEqual((lit.stages, lit.held(1), lit.lamps), (("idle", "thought"), 0, ("step", "go")))

    def test_no_log_with_fewer_deeds(self):
        for many, longest in ((1, 6), (2, 5)):
            for lots in some_eras(many, longest):
                self.assertEqual(Search(many, lots).fewest(), least_deeds(many, lots), lots)

    def test_no_log_with_fewer_deeds_of_three(self):
        for lots in (((0,),), ((1, 2),), ((0, 1, 2),), ((2,), (0, 1)), ((0, 2), (1,)), ((1,), (0,), (2,))):
            self.assertEqual(Search(3, lots).fewest(), least_deeds(3, lots), lots)

    def test_equal_calls(self):
        self.assertEqual(brought(FORTH, RING, FIRST, LOTS), brought(FORTH, RING, FIRST, LOTS))


class ShowsBroughtTest(Refusals, unittest.TestCase):
    def judged(self, program, floor, first, lots, log):
        """Whether this log of deeds can be done, and tells these LOTS."""
        try:
            teller = told_behind(program, floor, first, log)
        except AssertionError:
            return False
        return teller.lots() == lots and teller.pending() == ()

    def test_logs_bent_a_little(self):
        chance = random.Random(102)
        right = 0
        for number in range(12):
            program, floor, first = random_start(chance, 3)
            many = len(first)
            lots = random_eras(chance, many, 4)
            log = brought(program, floor, first, lots)
            bent = [log, log + (("look", 0),), ()]
            for at in range(len(log)):
                other = chance.randrange(len(log))
                swapped = list(log)
                swapped[at], swapped[other] = log[other], log[at]
                bent += [log[:at] + log[at + 1:], log[:at], tuple(swapped)]
            for value in bent:
                found = shows_brought(program, floor, first, lots, value)
                self.assertIs(found, self.judged(program, floor, first, lots, value))
                right += found
        self.assertGreater(right, 40)

    def test_further_deeds(self):
        log = brought(FORTH, RING, FIRST, ((0,),))
        behind = (("step", 1), ("look", 1), ("think", 1), ("step", 1), ("look", 0), ("think", 0), ("step", 0))
        for many in range(len(behind) + 1):
            self.assertIs(shows_brought(FORTH, RING, FIRST, ((0,),), log + behind[:many]), True)
        # Walker 0 is done and walker 1 waits: it tries, it goes, and looks for a step.
        further = log + behind + (("look", 1), ("think", 1), ("step", 1)) * 2
        self.assertIs(shows_brought(FORTH, RING, FIRST, ((0,),), further), True)
        further = further + (("look", 1),)
        self.assertIs(shows_brought(FORTH, RING, FIRST, ((0,),), further), False)
        self.assertIs(shows_brought(FORTH, RING, FIRST, ((0,), (1,)), further), False)
        further = further + (("think", 1),)
        self.assertIs(shows_brought(FORTH, RING, FIRST, ((0,), (1,)), further), False)
        further = further + (("step", 1),)
        self.assertIs(shows_brought(FORTH, RING, FIRST, ((0,), (1,)), further), True)

    def test_pending_is_not_enough(self):
        log = brought(FORTH, RING, FIRST, ((0, 1),))
        self.assertEqual(log[-2:], (("step", 0), ("step", 1)))
        for value in (log[:-1], log[:-2], log[:-2] + log[-1:], log[:-3]):
            self.assertIs(shows_brought(FORTH, RING, FIRST, ((0, 1),), value), False)

    def test_other_lots(self):
        log = brought(FORTH, RING, FIRST, LOTS)
        for lots in some_eras(2, 3):
            self.assertIs(shows_brought(FORTH, RING, FIRST, lots, log), lots == LOTS)

    def test_any_value(self):
        log = brought(FORTH, RING, FIRST, LOTS)
        values = NO_TUPLES + (list(log), (log,), tuple(list(deed) for deed in log), (None,), ("look", 0), {0: log})
        for value in values:
            self.assertIs(shows_brought(FORTH, RING, FIRST, LOTS, value), False, value)
            self.assertIs(shows_brought(FORTH, RING, FIRST, (), value), False, value)
        for deed in BAD_DEEDS + (("look", 2), ("look", True), ("look", -1), ("step", 0)):
            self.assertIs(shows_brought(FORTH, RING, FIRST, LOTS, log + (deed,)), False, deed)
            self.assertIs(shows_brought(FORTH, RING, FIRST, (), (deed,)), False, deed)
        self.assertIs(shows_brought(FORTH, RING, FIRST, (), ()), True)


class CountsTest(Refusals, unittest.TestCase):
    def test_the_examples(self):
        found = [least_deeds(2, some) for some in ((), ((0,),), ((0, 1),), ((0,), (1,)), ((0, 1), (0, 1)))]
        self.assertEqual(found, [0, 14, 18, 29, 54])
        self.assertEqual([deeds_of(2, (1, 1, 2)), deeds_of(1, (1, 1))], [63, 27])
        self.assertEqual(deeds_of(10 ** 6, (10 ** 6 - 1, 1, 3)), 23000021)

    def test_each_number_of_walkers(self):
        chance = random.Random(103)
        for number in range(300):
            many = 1 + number % 5
            lots = random_eras(chance, many, 10)
            self.assertEqual(least_deeds(many, lots), counted_deeds(many, lots))
            self.assertEqual(deeds_of(many, tuple(len(lot) for lot in lots)), counted_deeds(many, lots))

    def test_great_numbers(self):
        for many in (6, 100, 10 ** 9, 10 ** 30, 10 ** 300):
            self.assertEqual(deeds_of(many, ()), 0)
            # All at once: many tries, goes and steps.
            self.assertEqual(deeds_of(many, (many,)), 9 * many)
            self.assertEqual(deeds_of(many, (1,)), 3 * (2 * many + 1) - (many - 1))
            twice = 3 * (3 * many + many + 2 * many + 3 * many)
            self.assertEqual(deeds_of(many, (many, many)), twice)
            # One alone, then all others, then five of the next era.
            changes = (2 * many + 1 + many) + (3 * (many - 1) + (many - 1)) + 2 * many + (2 * many + 5)
            self.assertEqual(deeds_of(many, (1, many - 1, 5)), 3 * changes - (many - 5))

    def test_many_lots(self):
        self.assertEqual(deeds_of(1, (1,) * 1000), 9 + 999 * 18)
        self.assertEqual(deeds_of(500, (1,) * 500), counted_deeds(500, [(0,)] * 500))
        chance = random.Random(104)
        for _ in range(50):
            many, sizes, missing = chance.randint(1, 10 ** 12), [], 0
            for _ in range(chance.randint(1, 20)):
                missing = missing or many
                sizes.append(chance.choice((missing, chance.randint(1, missing))))
                missing -= sizes[-1]
            total, missing = 0, many
            for number, size in enumerate(sizes):
                is_last = number == len(sizes) - 1
                total += 2 * missing + size + (0 if is_last else missing)
                total += 0 if is_last or size < missing else 2 * many
                missing = missing - size or many
            self.assertEqual(deeds_of(many, tuple(sizes)), 3 * total - (many - sizes[-1]))

    def test_kinds_of_what_is_told(self):
        for value in (least_deeds(2, ()), least_deeds(2, LOTS), deeds_of(2, ()), deeds_of(2, (1, 1))):
            self.assertIs(type(value), int)

    def test_how_many(self):
        for many in NO_NUMBERS + (0, -1, 6, 10, 123456789):
            self.assert_refused(BadMany, many, least_deeds, many, ())
        for many in NO_NUMBERS + (0, -1, -5, -10 ** 30):
            self.assert_refused(BadMany, many, deeds_of, many, ())

    def test_sizes(self):
        for sizes in NO_TUPLES + ([], [1], (0,), (-1,), (True,), (1, True), (None,), ("1",), ((1,),), (1, 0), (STILL,)):
            self.assert_refused(BadSizes, sizes, deeds_of, 3, sizes)
        for sizes in ((4,), (1, 3), (2, 2), (3, 4), (3, 1, 3), (1, 1, 2), (1, 1, 1, 2, 2), (10 ** 30,), (3, -10 ** 30)):
            self.assert_refused(BadSizes, sizes, deeds_of, 3, sizes)
        for sizes in ((3,), (1, 2), (2, 1), (3, 3), (3, 1, 2), (1, 1, 1), (1, 1, 1, 2, 1)):
            self.assertGreater(deeds_of(3, sizes), 0)
        many = 10 ** 30
        self.assertEqual(deeds_of(many, (many - 1, 1)), 3 * (2 * many + many - 1 + many + 2 + 1) - (many - 1))
        sizes = (many - 1, 2)
        self.assert_refused(BadSizes, sizes, deeds_of, many, sizes)


class RefusalsTest(Refusals, unittest.TestCase):
    def test_starts(self):
        for call, behind in ((brought, ()), (shows_brought, ((),))):
            for program in NO_PROGRAMS:
                self.assert_refused(NoProgram, program, call, program, RING, FIRST, LOTS, *behind)
            for floor in BAD_FLOORS:
                self.assert_refused(BadFloor, floor, call, FORTH, floor, FIRST, LOTS, *behind)
            four = Program("marks 4\nstep 0\nmark 0")
            for standing in BAD_STANDINGS:
                self.assert_refused(BadStanding, standing, call, four, ("row", 3), standing, (), *behind)
            marked = ((0, 2, 1), (0, 0, 1))
            self.assert_refused(BadStanding, marked, call, FORTH, RING, marked, (), *behind)

    def test_lots(self):
        for lots in NO_ERAS:
            self.assert_refused(BadLots, lots, brought, FORTH, RING, FIRST, lots)
            self.assert_refused(BadLots, lots, shows_brought, FORTH, RING, FIRST, lots, ())
            self.assert_refused(BadLots, lots, least_deeds, 2, lots)

    def test_lots_are_those_of_the_standing(self):
        lots = ((0, 1), (0, 1))
        self.assertEqual(len(brought(FORTH, RING, FIRST, lots)), 54)
        for many in (1, 3, 4):
            first = ((0, 0, 1),) * many
            self.assert_refused(BadLots, lots, brought, FORTH, RING, first, lots)
            self.assert_refused(BadLots, lots, least_deeds, many, lots)

    def test_several_wrong_at_once(self):
        program, floor, standing, lots = [0], [1], [2], [3]
        for call, behind in ((brought, ()), (shows_brought, (None,))):
            self.assert_refused(NoProgram, program, call, program, floor, standing, lots, *behind)
            self.assert_refused(BadFloor, floor, call, FORTH, floor, standing, lots, *behind)
            self.assert_refused(BadStanding, standing, call, FORTH, RING, standing, lots, *behind)
            self.assert_refused(BadLots, lots, call, FORTH, RING, FIRST, lots, *behind)
        many = [4]
        self.assert_refused(BadMany, many, least_deeds, many, lots)
        self.assert_refused(BadLots, lots, least_deeds, 1, lots)
        self.assert_refused(BadMany, many, deeds_of, many, lots)
        self.assert_refused(BadSizes, lots, deeds_of, 1, lots)


if __name__ == "__main__":
    unittest.main()

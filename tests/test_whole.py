"""Guarantees (a) to (i) over the whole program: one run, by beats, Halls, Lits and benches."""

import random
import unittest

from onestillview.beats import eras, is_kind, next_lots, run
from onestillview.benches import Bench
from onestillview.bringing import brought, least_deeds, shows_brought
from onestillview.floors import turned, view
from onestillview.halls import Hall, as_beats
from onestillview.journals import journal, read_journal
from onestillview.lamps import Lit, eras_of, fine_rule, is_pattern, lit_of
from onestillview.rules import broken, faults
from onestillview.told import is_grown, is_told, pending, settled, told_lots, told_run, views_of
from onestillview.worlds import come_to, holds, meets
from tests.claims import random_claim
from tests.helpers import PROGRAMS, random_eras, random_start, random_ways, refusal, renumbered
from tests.tellers import eager_log

FINE = fine_rule()


def at_once(program, floor, first, lots):
    """A Hall whose walkers do each lot at once."""
    hall = Hall(program, floor, first)
    for lot in lots:
        for word in ("look", "think", "step"):
            for walker in lot:
                hall.do((word, walker))
    return hall


def told_by_all(program, floor, first, lots):
    """The last STANDINGS of the run, a Hall, a Lit, its told run and a bench; each is to be the same."""
    lit = lit_of(program, floor, first, FINE, brought(program, floor, first, lots))
    bench = Bench(program.text, floor, first)
    for word, walker in lit.log:
        getattr(bench, word)(walker)
    return [
        run(program, floor, first, lots)[-1], at_once(program, floor, first, lots).standing, lit.standing,
        told_run(lit)[-1], bench.standing,
    ]


def drawn(seed, many):
    """So many (chance, program, floor, standing, LOTS in eras)."""
    chance = random.Random(seed)
    for _ in range(many):
        program, floor, first = random_start(chance)
        yield chance, program, floor, first, random_eras(chance, len(first), 8)


class OneRunTest(unittest.TestCase):
    def test_all_lead_to_one_standing(self):
        for _, program, floor, first, lots in drawn(211, 120):
            standings = told_by_all(program, floor, first, lots)
            self.assertEqual(standings, standings[:1] * 5)
            self.assertEqual(as_beats(at_once(program, floor, first, lots)), lots)
            lit = lit_of(program, floor, first, FINE, brought(program, floor, first, lots))
            self.assertEqual((told_lots(lit), told_run(lit)), (lots, run(program, floor, first, lots)))
            self.assertEqual(eras_of(lit), sum(sum(map(len, era)) == len(first) for era in eras(len(first), lots)))

    def test_turned_and_mirrored(self):
        for chance, program, floor, first, lots in drawn(212, 60):
            way = random_ways(chance, floor)
            expected = turned(floor, run(program, floor, first, lots)[-1], *way)
            self.assertEqual(told_by_all(program, floor, turned(floor, first, *way), lots), [expected] * 5)

    def test_walkers_numbered_otherwise(self):
        for chance, program, floor, first, lots in drawn(213, 60):
            order = chance.sample(range(len(first)), len(first))
            expected = renumbered(run(program, floor, first, lots)[-1], order)
            renamed = tuple(tuple(sorted(order.index(walker) for walker in lot)) for lot in lots)
            self.assertEqual(told_by_all(program, floor, renumbered(first, order), renamed), [expected] * 5)
            hall = at_once(program, floor, renumbered(first, order), renamed)
            self.assertEqual(as_beats(hall), renamed)
            self.assertEqual(least_deeds(len(first), renamed), least_deeds(len(first), lots))

    def test_runs_grow_by_next_lots(self):
        for _, program, floor, first, lots in drawn(214, 60):
            many = len(first)
            for number, lot in enumerate(lots):
                self.assertIn(lot, next_lots("eras", many, lots[:number]))
                self.assertTrue(is_grown(lots[:number], lots))
                self.assertLess(least_deeds(many, lots[:number]), least_deeds(many, lots[:number + 1]))

    def test_each_moment_of_walkers_with_lamps(self):
        chance = random.Random(215)
        for number in range(24):
            program, floor, first = random_start(chance)
            log = eager_log(chance, program, floor, first, 120)
            bench, told = Bench(program.text, floor, first), ()
            for word, walker in log:
                getattr(bench, word)(walker)
                lit = bench.lit_now()
                lots, standings = told_lots(lit), told_run(lit)
                # (a): each view was that of the standing ahead of its lot.
                for round_number in range(len(lots)):
                    seen = tuple((each, view(floor, standings[round_number], each)) for each in lots[round_number])
                    self.assertEqual(views_of(lit, round_number), seen)
                self.assertEqual(settled(lit).standing, standings[-1])
                late = [each for each, _ in pending(lit)]
                for each in range(len(first)):
                    if each not in late:
                        self.assertEqual(lit.standing[each], standings[-1][each])
                # (b), (c), (e).
                self.assertTrue(is_grown(told, lots))
                self.assertTrue(is_kind("eras", len(first), lots))
                self.assertTrue(is_pattern(len(first), tuple(sorted(set(lit.lamps)))))
                told = lots
            self.assertTrue(is_told(program, floor, first, log, told))
            # (d): what came about can be brought about, with no more deeds.
            behind = settled(lit_of(program, floor, first, FINE, log))
            self.assertTrue(shows_brought(program, floor, first, told, behind.log))
            self.assertLessEqual(least_deeds(len(first), told), len(behind))
            # (f): and the fine rule is never broken.
            if len(first) <= 3:
                self.assertEqual(broken(FINE, len(first), log), ())
        self.assertEqual([faults(FINE, many) for many in (1, 2, 3)], [()] * 3)

    def test_what_lamped_walkers_come_to(self):
        chance = random.Random(216)
        for number in range(40):
            program, floor, first = random_start(chance, 3)
            if refusal(come_to, "lit", program, floor, first, 60) is not None:
                continue
            standings = come_to("lit", program, floor, first, 60)
            self.assertEqual(standings, come_to("eras", program, floor, first, 60))
            lit = Lit(program, floor, first, FINE)
            for _ in range(40):
                lit.go(chance.randrange(len(first)))
                self.assertIn(lit.standing, standings)
            claim = random_claim(chance)
            breaking = [standing for standing in standings if not meets(floor, standing, claim)]
            self.assertEqual(holds("lit", program, floor, first, claim, 60)[0], "breaks" if breaking else "holds")

    def test_eras_end_for_ever(self):
        chance = random.Random(217)
        for program in PROGRAMS:
            bench = Bench(program.text, ("ring", 6), tuple((place, 0, chance.choice((1, -1))) for place in range(5)))
            lots = ()
            for number in range(6):
                bench.turns(60)
                more = told_lots(bench.lit_now())
                self.assertTrue(is_grown(lots, more))
                self.assertGreater(eras_of(bench.lit_now()), number)
                lots = more

    def test_live(self):
        for chance, program, floor, first, lots in drawn(218, 40):
            bench = Bench(program.text, floor, first)
            for word, walker in brought(program, floor, first, lots):
                getattr(bench, word)(walker)

            def look(tried):
                tried.turns(3)
                tried.stand(first[:1])
                raise KeyError
            self.assertRaises(KeyError, bench.tried, look, keep=True)
            self.assertEqual(told_lots(bench.lit_now()), lots)
            self.assertEqual(read_journal(journal(bench)), bench)
            many = bench.deeds
            for _ in range(many):
                bench.undo()
            self.assertEqual(bench.lit_now(), Lit(program, floor, first, FINE))
            for _ in range(many):
                bench.redo()
            self.assertEqual(told_lots(bench.lit_now()), lots)


if __name__ == "__main__":
    unittest.main()

"""Point 13: benches."""

import random
import unittest

from onestillview.benches import Bench
from onestillview.errors import BadFloor, BadProgram, BadStanding, BadTimes, BadWalker, Busy, NoBlock, NoLook
from onestillview.errors import NothingToRedo, NothingToUndo, NoThought
from onestillview.halls import Hall
from onestillview.journals import journal, read_journal
from onestillview.lamps import Lit, fine_rule, lit_of
from onestillview.texts import Program
from tests.helpers import BAD_FLOORS, BAD_STANDINGS, NO_NUMBERS, STILL, Refusals, random_start, refusal
from tests.mirrors import Mirror, do_at_bench, drawn_deed, told_of_bench
from tests.models import NO_WALKERS

TEXT = "marks 2\nstep 1\nmark plus mine 1"
RING = ("ring", 4)
FIRST = ((0, 0, 1), (2, 0, -1))
BAD_TEXTS = (
    (None, 0), ("", 1), ("marks 5\nstep 0\nmark 0", 1), ("marks 1\nstep far\nmark 0", 2), ("marks 1\nstep 0", 3),
    (("marks 1",), 0), (STILL, 0), (7, 0), ("marks 1\nmark 0\nstep 0", 2),
)
# Values of keep that are as False.
NO_KEEPS = (False, None, 0, 1, 2, "", "True", (), (True,), [], [True], {}, {True: True}, STILL)
WORDS = ("look", "think", "step")


class Failure(Exception):
    """An error that is none of the package."""


def new_bench(*deeds):
    """The bench of the tests behind these deeds, each (word, what is told)."""
    bench = Bench(TEXT, RING, FIRST)
    for word, told in deeds:
        do_at_bench(bench, word, told)
    return bench


def done(*deeds):
    """A function that does these deeds at a bench."""
    def look(bench):
        for word, told in deeds:
            do_at_bench(bench, word, told)
        return deeds
    return look


class BenchCase(Refusals, unittest.TestCase):
    def assert_as_mirror(self, bench, mirror):
        """The bench is as the mirror tells it, and its journal too."""
        self.assertEqual(told_of_bench(bench), mirror.told())
        self.assertEqual(journal(bench), mirror.journal())

    def assert_refused_without_change(self, bench, wrong, value, call, *told):
        """The call raises this error, and the bench is as it was, in what can be undone and done again too."""
        before, ahead = bench.copy(), told_of_bench(bench)
        self.assert_refused(wrong, value, call, *told)
        self.assertEqual(told_of_bench(bench), ahead)
        self.assert_alike(bench, before)

    def assert_alike(self, bench, other):
        """Both benches are alike, in what can be undone and done again too."""
        self.assertEqual(history(bench), history(other))


def history(bench):
    """All journals of a bench: as it is, taken back deed by deed, and done again as far as can be."""
    back, on = bench.copy(), bench.copy()
    found = [journal(bench)]
    while refusal(back.undo) is None:
        found.append((journal(back), told_of_bench(back)))
    found.append("redo")
    while refusal(on.redo) is None:
        found.append((journal(on), told_of_bench(on)))
    return found


class DeedsTest(BenchCase):
    def test_at_the_beginning(self):
        for floor, first in ((RING, FIRST), (("row", 8), ((7, 1, -1),) * 5), (("row", 1), ((0, 0, 1),))):
            bench = Bench(TEXT, floor, first)
            many = len(first)
            self.assertEqual((bench.program, bench.floor, bench.standing), (Program(TEXT), floor, first))
            self.assertIs(type(bench.program), Program)
            self.assertEqual((bench.stages, bench.lamps), (("idle",) * many, ("wait",) * many))
            self.assertEqual((bench.deeds, len(bench)), (0, 0))
            self.assertEqual(bench.lit_now(), Lit(Program(TEXT), floor, first, fine_rule()))
            self.assert_as_mirror(bench, Mirror(Program(TEXT), floor, first))

    def test_each_deed_at_each_stage(self):
        bench = new_bench()
        wrong = {"look": Busy, "think": NoLook, "step": NoThought}
        for number in range(18):
            word = WORDS[number % 3]
            for other in WORDS:
                if other != word:
                    self.assert_refused_without_change(bench, wrong[other], 1, getattr(bench, other), 1)
            self.assertIsNone(getattr(bench, word)(1))
            self.assertEqual((bench.deeds, len(bench)), (number + 1, number + 1))
            self.assertEqual(bench.lit_now().log[-1], (word, 1))
            self.assertEqual(journal(bench).split("\n")[-1], f"{word} 1")
        self.assertEqual(bench.stages, ("idle", "idle"))

    def test_go_at_each_stage(self):
        for ahead in range(4):
            bench = new_bench(*[(word, 0) for word in WORDS[:ahead]])
            self.assertIsNone(bench.go(0))
            self.assertEqual(bench.lit_now().log, tuple((word, 0) for word in (WORDS if ahead < 3 else WORDS * 2)))
            self.assertEqual((bench.deeds, bench.stages), (ahead + 1, ("idle", "idle")))
            self.assertEqual(journal(bench).split("\n")[-1], "go 0")

    def test_turns(self):
        bench = new_bench(("look", 1))
        self.assertIsNone(bench.turns(1))
        self.assertEqual(bench.lit_now().log, (("look", 1),) + tuple((word, 0) for word in WORDS) + (
            ("think", 1), ("step", 1),
        ))
        self.assertEqual((bench.deeds, len(bench), bench.stages), (2, 6, ("idle", "idle")))
        bench.turns(3)
        self.assertEqual((bench.deeds, len(bench)), (3, 24))
        turns = tuple((word, each) for _ in range(3) for each in (0, 1) for word in WORDS)
        self.assertEqual(bench.lit_now().log[6:], turns)

    def test_no_turns_and_the_most(self):
        bench = new_bench(("look", 0))
        self.assertIsNone(bench.turns(0))
        self.assertEqual((bench.deeds, len(bench), bench.stages), (2, 1, ("looked", "idle")))
        self.assertEqual(journal(bench).split("\n")[-2:], ["look 0", "turns 0"])
        bench.turns(200)
        self.assertEqual((bench.deeds, len(bench)), (3, 1200))
        bench.undo()
        self.assertEqual((bench.deeds, len(bench)), (2, 1))
        bench.undo()
        self.assertEqual((bench.deeds, len(bench)), (1, 1))

    def test_stand(self):
        bench = new_bench(("turns", 4), ("look", 1))
        other = ((3, 1, -1),)
        self.assertIsNone(bench.stand(other))
        self.assertEqual((bench.standing, bench.stages, bench.lamps), (other, ("idle",), ("wait",)))
        self.assertEqual((len(bench), bench.deeds), (0, 3))
        self.assertEqual(bench.lit_now(), Lit(Program(TEXT), RING, other, fine_rule()))
        self.assertEqual(journal(bench).split("\n")[-1], "stand 3 1 -1")
        self.assert_refused_without_change(bench, BadWalker, 1, bench.look, 1)
        bench.go(0)
        bench.undo()
        bench.undo()
        self.assertEqual((len(bench), bench.stages), (25, ("idle", "looked")))

    def test_lit_now_is_by_itself(self):
        bench = new_bench(("turns", 2), ("look", 0))
        ahead = told_of_bench(bench)
        lit = bench.lit_now()
        self.assertIs(type(lit), Lit)
        self.assertEqual(lit, lit_of(Program(TEXT), RING, FIRST, fine_rule(), lit.log))
        lit.think(0)
        lit.go(1)
        self.assertEqual(told_of_bench(bench), ahead)
        kept = bench.lit_now()
        bench.think(0)
        self.assertEqual(len(kept), 13)
        self.assertEqual(len(bench), 14)

    def test_what_was_told_stays(self):
        bench = new_bench()
        told = (bench.standing, bench.stages, bench.lamps)
        bench.turns(5)
        self.assertEqual(told, (FIRST, ("idle", "idle"), ("wait", "wait")))

    def test_many_deeds_against_the_mirror(self):
        chance = random.Random(181)
        met = set()
        for number in range(60):
            program, floor, first = random_start(chance, 3)
            bench, mirror = Bench(program.text, floor, first), Mirror(program, floor, first)
            for _ in range(40):
                word, told = drawn_deed(chance, mirror)
                expected = mirror.refusal(word, told)
                self.assertEqual(refusal(do_at_bench, bench, word, told), expected, (word, told))
                met.add((word, expected and expected[0]))
                if expected is None:
                    mirror.do(word, told)
                self.assert_as_mirror(bench, mirror)
                self.assertEqual(read_journal(journal(bench)), bench)
        self.assertGreater(len(met), 14)


class RefusalsTest(BenchCase):
    def test_benches(self):
        for text, number in BAD_TEXTS:
            self.assert_numbered(BadProgram, number, Bench, text, RING, FIRST)
            self.assert_numbered(BadProgram, number, Bench, text, [0], [1])
        for floor in BAD_FLOORS:
            self.assert_refused(BadFloor, floor, Bench, TEXT, floor, FIRST)
            self.assert_refused(BadFloor, floor, Bench, TEXT, floor, None)
        four = "marks 4\nstep 0\nmark 0"
        for standing in BAD_STANDINGS + (((0, 0, 1),) * 6,):
            self.assert_refused(BadStanding, standing, Bench, four, ("row", 3), standing)
        marked = ((0, 2, 1),)
        self.assert_refused(BadStanding, marked, Bench, TEXT, RING, marked)

    def test_walkers(self):
        for ahead in ((), (("look", 0),), (("look", 1), ("think", 1))):
            bench = new_bench(*ahead)
            for walker in NO_WALKERS:
                for call in (bench.look, bench.think, bench.step, bench.go):
                    self.assert_refused_without_change(bench, BadWalker, walker, call, walker)

    def test_times(self):
        bench = new_bench(("go", 0), ("go", 1), ("undo", None))
        for many in NO_NUMBERS + (-1, 201, 999, 123456789, -123456789):
            self.assert_refused_without_change(bench, BadTimes, many, bench.turns, many)

    def test_standings(self):
        bench = Bench("marks 4\nstep 0\nmark 0", ("row", 3), ((0, 0, 1),))
        bench.go(0)
        bench.go(0)
        bench.undo()
        for standing in BAD_STANDINGS:
            self.assert_refused_without_change(bench, BadStanding, standing, bench.stand, standing)
        marked = ((0, 2, 1),)
        self.assert_refused(BadStanding, marked, new_bench().stand, marked)
        placed = ((4, 0, 1),)
        self.assert_refused(BadStanding, placed, new_bench().stand, placed)

    def test_nothing_to_undo_and_to_redo(self):
        bench = new_bench()
        self.assert_refused_without_change(bench, NothingToUndo, None, bench.undo)
        self.assert_refused_without_change(bench, NothingToRedo, None, bench.redo)
        self.assert_refused_without_change(bench, NoBlock, None, bench.keep)
        bench.go(0)
        self.assert_refused_without_change(bench, NothingToRedo, None, bench.redo)
        bench.undo()
        self.assert_refused_without_change(bench, NothingToUndo, None, bench.undo)
        bench.redo()
        self.assert_refused_without_change(bench, NothingToRedo, None, bench.redo)


class UndoTest(BenchCase):
    def test_each_kind_of_deed(self):
        deeds = (
            ("look", 0), ("think", 0), ("step", 0), ("go", 1), ("look", 1), ("go", 1), ("turns", 3), ("turns", 0),
            ("look", 0), ("turns", 2), ("stand", ((1, 0, 1), (1, 1, -1), (2, 0, 1))), ("turns", 6), ("go", 2),
            ("stand", ((0, 0, 1),)), ("look", 0),
        )
        bench, mirror = new_bench(), Mirror(Program(TEXT), RING, FIRST)
        for deed in deeds:
            do_at_bench(bench, *deed)
            mirror.do(*deed)
        for _ in range(3):
            for word in ["undo"] * len(deeds) + ["redo"] * len(deeds):
                self.assertIsNone(do_at_bench(bench, word, None))
                mirror.do(word, None)
                self.assert_as_mirror(bench, mirror)

    def test_redo_is_gone_behind_another_deed(self):
        for deed in (("look", 1), ("go", 1), ("turns", 0), ("turns", 1), ("stand", FIRST)):
            bench = new_bench(("go", 0), ("go", 1), ("undo", None), ("undo", None))
            do_at_bench(bench, *deed)
            self.assert_refused_without_change(bench, NothingToRedo, None, bench.redo)
            self.assertEqual(bench.deeds, 1)

    def test_redo_is_not_gone_behind_a_refused_one(self):
        bench = new_bench(("go", 0), ("look", 1), ("undo", None))
        for call, told in ((bench.think, 1), (bench.step, 0), (bench.look, 2), (bench.go, None), (bench.turns, 201),
                           (bench.stand, ())):
            self.assertIsNotNone(refusal(call, told))
        bench.redo()
        self.assertEqual((bench.stages, bench.deeds), (("idle", "looked"), 2))

    def test_the_last_one_that_was_taken_back_comes_first(self):
        bench = new_bench(("go", 0), ("go", 1), ("look", 0), ("undo", None), ("undo", None))
        bench.redo()
        self.assertEqual(journal(bench).split("\n")[-2:], ["go 0", "go 1"])
        bench.undo()
        bench.undo()
        bench.redo()
        bench.redo()
        bench.redo()
        self.assertEqual(journal(bench).split("\n")[-3:], ["go 0", "go 1", "look 0"])


class TriedTest(BenchCase):
    def test_kept(self):
        for keep in (True, False):
            bench = new_bench(("go", 0))
            told = bench.tried(done(("go", 1), ("look", 0)), keep=keep)
            self.assertEqual(told, (("go", 1), ("look", 0)))
            self.assertEqual(bench.deeds, 3 if keep else 1)
            same = new_bench(("go", 0), ("go", 1), ("look", 0)) if keep else new_bench(("go", 0))
            self.assert_alike(bench, same)

    def test_not_kept_without_a_word(self):
        bench = new_bench(("go", 0))
        self.assertIsNone(bench.tried(lambda tried: tried.go(1)))
        self.assert_alike(bench, new_bench(("go", 0)))

    def test_look_is_called_with_the_bench_itself(self):
        bench = new_bench()
        self.assertIs(bench.tried(lambda tried: tried), bench)
        self.assertIs(bench.tried(look=lambda tried: tried, keep=True), bench)

    def test_it_returns_what_look_returned(self):
        for value in (None, 0, True, [], (1, 2), "text", STILL):
            self.assertIs(new_bench().tried(lambda tried: value), value)

    def test_keep_goes_by_its_name_alone(self):
        with self.assertRaises(TypeError):
            new_bench().tried(lambda tried: None, True)

    def test_keep_is_called_within(self):
        def look(bench):
            bench.go(1)
            self.assertIsNone(bench.keep())
            bench.go(0)
            bench.keep()
        bench = new_bench(("go", 0))
        bench.tried(look)
        self.assert_alike(bench, new_bench(("go", 0), ("go", 1), ("go", 0)))
        bench.tried(lambda tried: tried.keep(), keep=False)
        self.assert_alike(bench, new_bench(("go", 0), ("go", 1), ("go", 0)))

    def test_values_of_keep_other_than_true(self):
        for keep in NO_KEEPS:
            bench = new_bench(("go", 0), ("go", 1), ("undo", None))
            bench.tried(done(("look", 1)), keep=keep)
            self.assert_alike(bench, new_bench(("go", 0), ("go", 1), ("undo", None)))
            bench.tried(lambda tried: (tried.look(1), tried.keep()), keep=keep)
            self.assert_alike(bench, new_bench(("go", 0), ("look", 1)))

    def test_within_the_trial_the_bench_is_led(self):
        def look(bench):
            bench.go(1)
            bench.look(0)
            return told_of_bench(bench), journal(bench)
        bench, same = new_bench(("go", 0)), new_bench(("go", 0), ("go", 1), ("look", 0))
        self.assertEqual(bench.tried(look), (told_of_bench(same), journal(same)))

    def test_with_an_error_within(self):
        def look(bench, error, is_kept):
            bench.undo()
            bench.turns(2)
            bench.stand(FIRST[:1])
            if is_kept:
                bench.keep()
            raise error
        for error in (Failure(), BadWalker(7), KeyError("a"), StopIteration(), KeyboardInterrupt(), ValueError()):
            for keep in (True, False):
                for is_kept in (True, False):
                    bench = new_bench(("go", 0), ("go", 1), ("undo", None))
                    with self.assertRaises(type(error)) as caught:
                        bench.tried(lambda tried: look(tried, error, is_kept), keep=keep)
                    self.assertIs(caught.exception, error)
                    self.assert_alike(bench, new_bench(("go", 0), ("go", 1), ("undo", None)))
                    self.assertEqual(refusal(bench.keep), (NoBlock, None))

    def test_an_error_that_look_catches(self):
        def look(bench):
            bench.go(1)
            return refusal(bench.step, 0)
        bench = new_bench()
        self.assertEqual(bench.tried(look, keep=True), (NoThought, 0))
        self.assert_alike(bench, new_bench(("go", 1)))

    def test_what_cannot_be_called(self):
        bench = new_bench(("go", 0))
        with self.assertRaises(TypeError):
            bench.tried(None)
        self.assert_alike(bench, new_bench(("go", 0)))
        self.assertEqual(refusal(bench.keep), (NoBlock, None))

    def test_one_within_another(self):
        for outer in (True, False):
            for inner in (True, False):
                def look(bench):
                    bench.go(0)
                    bench.tried(done(("go", 1), ("turns", 1)), keep=inner)
                    bench.look(1)
                bench = new_bench(("turns", 1))
                bench.tried(look, keep=outer)
                deeds = [("turns", 1)]
                if outer:
                    deeds += [("go", 0)] + ([("go", 1), ("turns", 1)] if inner else []) + [("look", 1)]
                self.assert_alike(bench, new_bench(*deeds))

    def test_keep_belongs_to_the_innermost_one(self):
        def inner(bench):
            bench.go(1)
            bench.keep()

        def look(bench):
            bench.go(0)
            bench.tried(inner)
        bench = new_bench()
        bench.tried(look)
        self.assert_alike(bench, new_bench())
        bench.tried(look, keep=True)
        self.assert_alike(bench, new_bench(("go", 0), ("go", 1)))

        def later(bench):
            bench.tried(done(("look", 1)))
            bench.keep()
            bench.tried(done(("go", 1)))
            bench.go(0)
        bench = new_bench()
        bench.tried(later)
        self.assert_alike(bench, new_bench(("go", 0)))

    def test_an_error_within_an_inner_one(self):
        def failing(bench):
            bench.go(1)
            bench.keep()
            raise Failure()

        def look(bench):
            bench.go(0)
            with self.assertRaises(Failure):
                bench.tried(failing, keep=True)
            bench.keep()
            bench.look(1)
        bench = new_bench()
        bench.tried(look)
        self.assert_alike(bench, new_bench(("go", 0), ("look", 1)))

    def test_undo_goes_on_to_what_was_done_ahead(self):
        def look(bench):
            bench.look(1)
            for _ in range(3):
                bench.undo()
            self.assertEqual(refusal(bench.undo), (NothingToUndo, None))
            bench.redo()
        bench = new_bench(("go", 0), ("go", 1))
        bench.tried(look)
        self.assert_alike(bench, new_bench(("go", 0), ("go", 1)))
        bench.tried(look, keep=True)
        back = [("undo", None)] * 3 + [("redo", None)]
        same = new_bench(("go", 0), ("go", 1), ("look", 1), *back)
        self.assert_alike(bench, same)
        self.assertEqual(bench.deeds, 1)

    def test_redo_goes_on_to_what_was_taken_back_ahead(self):
        for keep in (True, False):
            bench = new_bench(("go", 0), ("go", 1), ("undo", None), ("undo", None))
            bench.tried(done(("redo", None)), keep=keep)
            deeds = [("go", 0), ("go", 1), ("undo", None), ("undo", None)] + [("redo", None)] * keep
            self.assert_alike(bench, new_bench(*deeds))

    def test_redo_is_there_again_behind_a_trial_that_is_not_kept(self):
        bench = new_bench(("go", 0), ("go", 1), ("undo", None))
        bench.tried(done(("turns", 3)))
        bench.redo()
        self.assert_alike(bench, new_bench(("go", 0), ("go", 1)))
        bench.undo()
        bench.tried(done(("turns", 3)), keep=True)
        self.assertEqual(refusal(bench.redo), (NothingToRedo, None))

    def test_what_is_kept_can_be_undone_deed_by_deed(self):
        bench = new_bench(("go", 0))
        bench.tried(done(("go", 1), ("look", 0), ("think", 0)), keep=True)
        for deeds in (3, 2, 1, 0):
            bench.undo()
            self.assertEqual(bench.deeds, deeds)

    def test_many_trials_against_the_mirror(self):
        chance = random.Random(182)
        for _ in range(60):
            program, floor, first = random_start(chance, 3)
            bench, mirror = Bench(program.text, floor, first), Mirror(program, floor, first)
            for _ in range(5):
                self.try_some(chance, bench, mirror, 3)
                self.assert_as_mirror(bench, mirror)
                self.assertEqual(refusal(bench.redo), mirror.refusal("redo", None))
                if mirror.undone:
                    mirror.do("redo", None)

    def try_some(self, chance, bench, mirror, deep):
        """Some deeds in a trial, and some trials within it, at both."""
        is_kept, keep, fails = chance.random() < 0.3, chance.random() < 0.4, chance.random() < 0.2

        def look(tried):
            for _ in range(chance.randint(0, 6)):
                word, told = drawn_deed(chance, mirror)
                expected = mirror.refusal(word, told)
                self.assertEqual(refusal(do_at_bench, tried, word, told), expected)
                if expected is None:
                    mirror.do(word, told)
                if deep and chance.random() < 0.3:
                    self.try_some(chance, tried, mirror, deep - 1)
                self.assert_as_mirror(tried, mirror)
            if is_kept:
                tried.keep()
            if fails:
                raise Failure()
        ahead = (list(mirror.deeds), list(mirror.undone))
        try:
            bench.tried(look, keep=keep)
        except Failure:
            self.assertTrue(fails)
        if fails or not (is_kept or keep):
            mirror.deeds, mirror.undone = ahead


class CopiesTest(BenchCase):
    def test_a_copy_is_alike_and_by_itself(self):
        bench = new_bench(("go", 0), ("turns", 2), ("look", 1), ("undo", None), ("undo", None))
        copy = bench.copy()
        self.assertIs(type(copy), Bench)
        self.assertIsNot(copy, bench)
        self.assert_alike(copy, bench)
        self.assertEqual((copy, told_of_bench(copy)), (bench, told_of_bench(bench)))
        copy.redo()
        copy.go(1)
        self.assert_alike(bench, new_bench(("go", 0), ("turns", 2), ("look", 1), ("undo", None), ("undo", None)))
        kept = bench.copy()
        bench.undo()
        bench.look(1)
        self.assert_alike(kept, new_bench(("go", 0), ("turns", 2), ("look", 1), ("undo", None), ("undo", None)))

    def test_a_copy_is_outside_of_all_trials(self):
        copies = []

        def look(bench):
            bench.go(0)
            copies.append(bench.copy())
            self.assertEqual(refusal(copies[0].keep), (NoBlock, None))
            copies[0].go(1)
            self.assertEqual(bench.deeds, 1)
        bench = new_bench()
        bench.tried(look)
        self.assert_alike(bench, new_bench())
        self.assert_alike(copies[0], new_bench(("go", 0), ("go", 1)))

    def test_trials_at_a_copy(self):
        def look(bench):
            copy = bench.copy()
            copy.tried(done(("go", 0)), keep=True)
            copy.tried(done(("go", 1)))
            bench.go(1)
            return copy
        bench = new_bench()
        copy = bench.tried(look, keep=True)
        self.assert_alike(copy, new_bench(("go", 0)))
        self.assert_alike(bench, new_bench(("go", 1)))

    def test_equality_by_journals(self):
        benches = [
            new_bench(), new_bench(("go", 0)), new_bench(("go", 1)), new_bench(("look", 0)), new_bench(("turns", 0)),
            new_bench(("turns", 1)), new_bench(("go", 0), ("go", 1)), new_bench(("look", 0), ("think", 0), ("step", 0)),
            new_bench(("stand", FIRST)), Bench(TEXT, ("ring", 5), FIRST), Bench(TEXT, ("row", 4), FIRST),
            Bench(TEXT, RING, FIRST[::-1]), Bench(TEXT, RING, FIRST[:1]), Bench(STILL.text, RING, FIRST),
            Bench(TEXT, RING, FIRST + FIRST),
        ]
        for one, bench in enumerate(benches):
            for other, another in enumerate(benches):
                self.assertIs(bench == another, one == other)
                self.assertIs(bench != another, one != other)
                self.assertEqual(bench == another, journal(bench) == journal(another))

    def test_equal_whatever_was_taken_back(self):
        self.assertEqual(new_bench(("go", 0), ("undo", None)), new_bench())
        self.assertEqual(new_bench(("go", 1), ("undo", None), ("go", 0)), new_bench(("go", 0)))

    def test_equal_nothing_else(self):
        bench = new_bench()
        hall = Hall(STILL, RING, FIRST)
        for value in (None, 0, (), [], {}, "", journal(bench), bench.program, bench.lit_now(), hall):
            self.assertIs(bench == value, False)
            self.assertIs(value == bench, False)
            self.assertIs(bench != value, True)

    def test_operators(self):
        for other in (new_bench(), 1, None, (), "a"):
            with self.assertRaises(TypeError):
                new_bench() < other
            with self.assertRaises(TypeError):
                new_bench() + other


if __name__ == "__main__":
    unittest.main()

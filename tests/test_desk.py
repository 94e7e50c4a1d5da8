"""Point 13: a desk."""

import random
import unittest

from onestillview.benches import Bench
from onestillview.desk import Desk
from onestillview.errors import BadJournal, BadStanding, BadTask, BadTimes, BadWalker, Busy, NoLook, NothingToRedo
from onestillview.errors import NothingToUndo, NoThought
from onestillview.journals import journal, read_journal
from onestillview.lamps import eras_of
from onestillview.told import pending, told_lots
from tests.helpers import NO_TUPLES, STILL, Refusals, random_start, refusal
from tests.mirrors import Mirror, drawn_deed, line_of, told_of_bench
from tests.test_journals import HEAD, NO_DEEDS, text_of

TEXT = "marks 2\nstep 1\nmark plus mine 1\nfloor ring 4\nstanding 0 0 1 2 0 -1\ndeeds"
QUESTIONS = ("lamps", "standing", "told", "pending", "eras")


def told_answers(bench):
    """What the desk is to answer, by the functions."""
    lit = bench.lit_now()
    lots = [" ".join(str(walker) for walker in lot) for lot in told_lots(lit)]
    who = [f"{walker} {word}" for walker, word in pending(lit)]
    return [
        " ".join(bench.lamps), " ".join(f"{place} {mark} {sense}" for place, mark, sense in bench.standing),
        " ; ".join(lots) or "none", " ; ".join(who) or "none", str(eras_of(lit)),
    ]


class DeskCase(Refusals, unittest.TestCase):
    def assert_refused_without_change(self, desk, wrong, value, line):
        """The line is refused by this error, and the bench is as it was."""
        bench, ahead, before = desk.bench, told_of_bench(desk.bench), journal(desk.bench)
        self.assertEqual(refusal(desk.say, line), (wrong, value), line)
        self.assertIs(desk.bench, bench)
        self.assertEqual((told_of_bench(desk.bench), journal(desk.bench)), (ahead, before))


class DeskTest(DeskCase):
    def test_the_example(self):
        desk = Desk(TEXT + "\nturns 2\nlook 0")
        lines = ("lamps", "told", "pending", "look 1", "think 1", "lamps", "told", "pending")
        answers = ["go go", "0", "0 look", "done", "done", "go step", "0 1", "0 look ; 1 step"]
        self.assertEqual([desk.say(line) for line in lines], answers)
        lines = ("standing", "turns 1", "standing", "eras", "turns 3", "lamps", "turns 8", "standing", "told")
        answers = ["0 0 1 2 1 -1", "done", "1 1 1 1 1 -1", "1", "done", "wait wait", "done", "2 1 1 0 1 -1"]
        answers.append("0 1 ; 0 ; 1")
        self.assertEqual([desk.say(line) for line in lines], answers)
        lines = ("stand 3 1 1", "told", "undo", "redo", "standing", "go 0", "lamps")
        self.assertEqual([desk.say(line) for line in lines], ["done", "none", "done", "done", "3 1 1", "done", "try"])
        self.assertEqual(len(desk.bench), 3)
        self.assertEqual(journal(desk.bench).split("\n")[3:], [
            "floor ring 4", "standing 0 0 1 2 0 -1", "deeds", "turns 2", "look 0", "look 1", "think 1",
            "turns 1", "turns 3",
            "turns 8", "stand 3 1 1", "go 0",
        ])
        self.assertEqual((read_journal(journal(desk.bench)), desk.bench.deeds), (desk.bench, 9))

    def test_the_bench_of_the_journal(self):
        desk = Desk(text_of(HEAD + ["turns 3", "look 1"]))
        self.assertIs(type(desk.bench), Bench)
        self.assertEqual(desk.bench, read_journal(text_of(HEAD + ["turns 3", "look 1"])))
        self.assertIn("bench", vars(desk))

    def test_it_is_the_very_bench(self):
        desk = Desk(TEXT)
        bench = desk.bench
        self.assertEqual(desk.say("go 1"), "done")
        self.assertIs(desk.bench, bench)
        self.assertEqual((bench.deeds, bench.lamps), (1, ("wait", "try")))
        bench.go(0)
        self.assertEqual([desk.say("lamps"), desk.say("undo"), desk.say("lamps")], ["try try", "done", "wait try"])
        self.assertEqual(bench.deeds, 1)

    def test_desks_by_themselves(self):
        one, other = Desk(TEXT), Desk(TEXT)
        one.say("go 0")
        self.assertEqual([one.say("lamps"), other.say("lamps")], ["try wait", "wait wait"])

    def test_each_line_of_a_deed(self):
        desk, bench = Desk(TEXT), read_journal(TEXT)
        for line, call, told in (
            ("look 0", bench.look, 0), ("think 0", bench.think, 0), ("step 0", bench.step, 0), ("go 1", bench.go, 1),
            ("turns 0", bench.turns, 0), ("turns 200", bench.turns, 200), ("go 0", bench.go, 0),
            ("stand 3 1 -1 0 0 1 2 1 1", bench.stand, ((3, 1, -1), (0, 0, 1), (2, 1, 1))), ("look 2", bench.look, 2),
        ):
            self.assertEqual(desk.say(line), "done")
            call(told)
            self.assertEqual((desk.bench, told_of_bench(desk.bench)), (bench, told_of_bench(bench)))
        for word in ["undo"] * 9 + ["redo"] * 9:
            self.assertEqual(desk.say(word), "done")
            getattr(bench, word)()
            self.assertEqual((desk.bench, told_of_bench(desk.bench)), (bench, told_of_bench(bench)))

    def test_answers_at_the_beginning(self):
        desk = Desk("marks 4\nstep 0\nmark 0\nfloor row 3\nstanding 2 3 -1\ndeeds")
        self.assertEqual([desk.say(line) for line in QUESTIONS], ["wait", "2 3 -1", "none", "none", "0"])
        five = Desk("marks 4\nstep 0\nmark 0\nfloor row 1\nstanding" + " 0 0 1" * 5 + "\ndeeds")
        self.assertEqual(five.say("lamps"), "wait wait wait wait wait")

    def test_questions_change_nothing(self):
        desk = Desk(TEXT + "\nturns 2\nlook 0\nlook 1")
        desk.say("undo")
        told = told_of_bench(desk.bench)
        for line in QUESTIONS:
            self.assertIs(type(desk.say(line)), str)
        self.assertEqual(told_of_bench(desk.bench), told)
        self.assertEqual(desk.say("redo"), "done")

    def test_many_lines(self):
        chance = random.Random(201)
        answers = set()
        for _ in range(50):
            program, floor, first = random_start(chance, 3)
            mirror = Mirror(program, floor, first)
            desk = Desk(mirror.journal())
            for _ in range(30):
                word, told = ("turns", chance.randint(1, 4)) if chance.random() < 0.3 else drawn_deed(chance, mirror)
                if word == "stand" or type(told) is int or told is None and word in ("undo", "redo"):
                    line = word if told is None else line_of((word, told))
                    expected = mirror.refusal(word, told)
                    if expected is None:
                        self.assertEqual(desk.say(line), "done")
                        mirror.do(word, told)
                    else:
                        self.assert_refused_without_change(desk, *expected, line)
                found = [desk.say(line) for line in QUESTIONS]
                self.assertEqual(found, told_answers(desk.bench))
                self.assertEqual(journal(desk.bench), mirror.journal())
                answers.update(found[2:4])
        self.assertGreater(len(answers), 15)


class RefusalsTest(DeskCase):
    def test_journals(self):
        for value in NO_TUPLES + ((), [TEXT], Desk(TEXT), read_journal(TEXT)):
            if not isinstance(value, str):
                self.assert_numbered(BadJournal, 0, Desk, value)
        self.assert_numbered(BadJournal, 2, Desk, "")
        self.assert_numbered(BadJournal, 7, Desk, TEXT + "\nlook 9")
        self.assert_numbered(BadJournal, 6, Desk, TEXT.replace("\ndeeds", ""))
        self.assert_numbered(BadJournal, 4, Desk, TEXT.replace("ring 4", "ring 2"))

    def test_what_is_no_line(self):
        desk = Desk(TEXT)
        lines = [line for line in NO_DEEDS if line not in QUESTIONS + ("undo", "redo")]
        lines += [
            "lamps ", " lamps", "Lamps", "standing ", "told 0", "pending\n", "eras\n", "undo ", "undo 1", "redo\n",
            "\n", "look 0\n", "look 0\nlook 1", "\nlook 0", "stand 0 0 1\n", "done", "none", "journal", "lamps\nlamps",
        ]
        for line in lines:
            self.assert_refused_without_change(desk, BadTask, line, line)

    def test_what_is_no_string(self):
        desk = Desk(TEXT)
        for line in NO_TUPLES + ((), ("look", 0), ["look 0"], ("lamps",), STILL, desk.bench, {"look": 0}):
            if not isinstance(line, str):
                self.assert_refused_without_change(desk, BadTask, line, line)

    def test_what_the_bench_raises(self):
        desk = Desk(TEXT + "\ngo 0")
        for line, wrong, value in (
            ("look 2", BadWalker, 2), ("think 5", BadWalker, 5), ("step -1", BadWalker, -1), ("go 2", BadWalker, 2),
            ("think 0", NoLook, 0), ("step 1", NoThought, 1), ("turns 201", BadTimes, 201), ("turns -1", BadTimes, -1),
            ("stand", BadStanding, ()), ("stand 4 0 1", BadStanding, ((4, 0, 1),)), ("redo", NothingToRedo, None),
            ("stand 0 2 1 0 0 1", BadStanding, ((0, 2, 1), (0, 0, 1))), ("stand 0 0 0", BadStanding, ((0, 0, 0),)),
        ):
            self.assert_refused_without_change(desk, wrong, value, line)
        self.assertEqual([desk.say("look 1"), refusal(desk.say, "look 1")], ["done", (Busy, 1)])
        self.assertEqual([desk.say("undo"), desk.say("undo")], ["done", "done"])
        self.assert_refused_without_change(desk, NothingToUndo, None, "undo")
        self.assertEqual([desk.say("redo"), desk.say("redo")], ["done", "done"])


if __name__ == "__main__":
    unittest.main()

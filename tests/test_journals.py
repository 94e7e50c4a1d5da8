"""Point 13: journals."""

import random
import unittest

from onestillview.benches import Bench
from onestillview.errors import BadJournal
from onestillview.journals import journal, read_journal
from onestillview.texts import Program
from tests.helpers import NO_TUPLES, STILL, Refusals, random_start
from tests.mirrors import Mirror, do_at_bench, drawn_deed, told_of_bench

PROGRAM = ["marks 2", "let near less ahead behind", "step near", "mark plus mine 1"]
HEAD = PROGRAM + ["floor ring 4", "standing 0 0 1 2 0 -1", "deeds"]
# None of these is how Python writes an integer.
NO_NUMBERS = (
    "", "+1", "-0", "00", "01", "-01", "1.0", "1_0", "one", "0x1", "--1", "-", "1-", "1e1", "True", "None", "1,",
)
# None of these has the form of a line of a deed.
NO_DEEDS = (
    "", " ", "deeds", "look", "look ", " look 0", "look  0", "look 0 ", "look 0 1", "Look 0", "look0", "looks 0", "go",
    "think", "step", "turns", "turns ", "turns 1 1", "stand 0", "stand 0 0", "stand 0 0 1 1", "stand  0 0 1",
    "stand 0 0 1 ",
    "stand  ", "stand ", "undo", "redo", "lamps", "standing", "standing 0 0 1", "told", "pending", "eras",
    "keep", "do look 0",
    "floor ring 4", "marks 2", "look walker", "stand 0 0 one", "go 0;", "turns many", "0 look", "copy",
    "tried", "held 0",
)
# These have the form of a deed, but are refused behind HEAD.
REFUSED = (
    "look 2", "look -1", "think 0", "step 0", "think 2", "step -7", "go 2", "go -1", "turns -1", "turns 201",
    "turns 999999999",
    "stand", "stand 4 0 1", "stand 0 2 1", "stand 0 0 0", "stand 0 0 2", "stand -1 0 1", "stand" + " 0 0 1" * 6,
)


def text_of(lines):
    """These lines, joined by line feeds."""
    return "\n".join(lines)


class JournalTest(unittest.TestCase):
    def test_of_each_deed(self):
        bench = Bench(text_of(PROGRAM), ("ring", 4), ((0, 0, 1), (2, 0, -1)))
        self.assertEqual(journal(bench), text_of(HEAD))
        bench.look(0)
        bench.think(0)
        bench.step(0)
        bench.go(1)
        bench.turns(0)
        bench.turns(12)
        bench.stand(((3, 1, -1), (0, 0, 1), (0, 1, 1)))
        bench.go(2)
        lines = ["look 0", "think 0", "step 0", "go 1", "turns 0", "turns 12", "stand 3 1 -1 0 0 1 0 1 1", "go 2"]
        self.assertEqual(journal(bench), text_of(HEAD + lines))
        self.assertEqual(read_journal(journal(bench)), bench)
        bench.undo()
        bench.undo()
        self.assertEqual(journal(bench), text_of(HEAD + lines[:-2]))

    def test_of_a_row(self):
        bench = Bench("marks 1\nstep 0\nmark 0", ("row", 1), ((0, 0, -1),))
        self.assertEqual(journal(bench), "marks 1\nstep 0\nmark 0\nfloor row 1\nstanding 0 0 -1\ndeeds")

    def test_the_standing_is_that_at_the_beginning(self):
        bench = Bench("marks 2\nstep 1\nmark 1", ("row", 5), ((0, 0, 1),))
        bench.turns(3)
        self.assertEqual(bench.standing, ((1, 1, 1),))
        bench.stand(((4, 0, 1),))
        self.assertEqual(journal(bench).split("\n")[4:], ["standing 0 0 1", "deeds", "turns 3", "stand 4 0 1"])

    def test_nothing_is_changed(self):
        bench = Bench("marks 2\nstep 1\nmark 1", ("row", 5), ((0, 0, 1),))
        bench.go(0)
        told = told_of_bench(bench)
        self.assertEqual(journal(bench), journal(bench))
        self.assertEqual(told_of_bench(bench), told)


class ReadTest(unittest.TestCase):
    def test_read_back_to_an_equal_bench(self):
        chance = random.Random(191)
        for _ in range(80):
            program, floor, first = random_start(chance)
            bench, mirror = Bench(program.text, floor, first), Mirror(program, floor, first)
            for _ in range(chance.randint(0, 40)):
                word, told = drawn_deed(chance, mirror)
                if mirror.refusal(word, told) is None:
                    mirror.do(word, told)
                    do_at_bench(bench, word, told)
            text = journal(bench)
            self.assertEqual(text, mirror.journal())
            read = read_journal(text)
            self.assertIs(type(read), Bench)
            self.assertEqual(read, bench)
            self.assertEqual((told_of_bench(read), journal(read)), (told_of_bench(bench), text))
            self.assertEqual(read.deeds, len(mirror.deeds))

    def test_what_is_read_can_be_undone(self):
        bench = read_journal(text_of(HEAD + ["go 0", "look 1"]))
        bench.undo()
        self.assertEqual(journal(bench), text_of(HEAD + ["go 0"]))
        bench.redo()
        self.assertEqual(journal(bench), text_of(HEAD + ["go 0", "look 1"]))

    def test_deeds_at_the_edges(self):
        lines = ["turns 0", "turns 200", "stand" + " 3 1 -1" * 5, "go 4", "look 4", "stand 0 0 1", "turns 1"]
        bench = read_journal(text_of(HEAD + lines))
        self.assertEqual((bench.deeds, len(bench), bench.lamps), (7, 3, ("try",)))
        self.assertEqual(journal(bench), text_of(HEAD + lines))

    def test_a_program_of_nine_lines(self):
        lines = ["marks 4"] + [f"let a{number} {number}" for number in range(6)] + ["step a5", "mark a0"]
        text = text_of(lines + ["floor row 8", "standing 7 3 1", "deeds"])
        self.assertEqual(read_journal(text).program, Program(text_of(lines)))


class BadJournalTest(Refusals, unittest.TestCase):
    def assert_bad(self, number, lines):
        """The journal of these lines is refused by this number."""
        self.assert_numbered(BadJournal, number, read_journal, text_of(lines))

    def test_what_is_no_string(self):
        for value in NO_TUPLES + ((), ("deeds",), [text_of(HEAD)], Bench(STILL.text, ("row", 1), ((0, 0, 1),))):
            if not isinstance(value, str):
                self.assert_numbered(BadJournal, 0, read_journal, value)

    def test_without_the_line_deeds(self):
        self.assert_bad(2, [""])
        self.assert_bad(2, ["deed"])
        self.assert_bad(3, ["", ""])
        self.assert_bad(7, HEAD[:-1])
        for line in ("deeds ", " deeds", "Deeds", "deeds 1", "deed", "", "deeds:"):
            self.assert_bad(8, HEAD[:-1] + [line])
            self.assert_bad(9, ["nothing is right"] * 7 + [line])

    def test_fewer_than_three_lines_ahead(self):
        for many in range(3):
            self.assert_bad(many + 1, ["marks 1", "step 0"][:many] + ["deeds", "wrong"])
            self.assert_bad(many + 1, ["", ""][:many] + ["deeds"])
            self.assert_bad(many + 1, HEAD[4:6][:many] + ["deeds"] + HEAD)
        self.assert_bad(1, ["deeds"])

    def test_the_programs_lines(self):
        self.assert_bad(2, ["marks 1", "floor row 1", "standing 0 0 1", "deeds"])
        self.assert_bad(1, ["", "floor row 1", "standing 0 0 1", "deeds"])
        self.assert_bad(1, ["marks 5", "step 0", "mark 0", "floor wrong", "standing wrong", "deeds", "wrong"])
        self.assert_bad(3, ["marks 1", "step 0", "mark wrong", "floor", "standing", "deeds"])
        self.assert_bad(2, ["marks 1", "floor row 1", "wrong", "deeds"])
        self.assert_bad(3, ["marks 1", "step 0", "floor row 1", "standing 0 0 1", "deeds"])
        self.assert_bad(4, ["marks 1", "step 0", "mark 0", "", "floor row 1", "standing 0 0 1", "deeds"])
        # With one line too few ahead of deeds, the floor's line stands where the program's last one should.
        self.assert_bad(4, PROGRAM[:3] + HEAD[4:])
        for number in range(4):
            program = PROGRAM[:number] + ["wrong"] + PROGRAM[number + 1:]
            self.assert_bad(number + 1, program + ["floor", "standing", "deeds"])

    def test_the_floors_line_and_the_standings(self):
        floors = [
            "", "floor", "floor ring", "floor ring ", "floor  ring 4", "floor ring  4", "floor ring 4 ",
            " floor ring 4", "Floor ring 4", "ring 4", "floor ring four", "floor 4", "floor ring 4 4", "row ring 4",
            "floor  4",
        ]
        floors += [f"floor ring {number}" for number in NO_NUMBERS]
        standings = [
            "", "standing 0", "standing 0 0", "standing 0 0 1 1", "standing  0 0 1", "standing 0 0 1 ", "stand 0 0 1",
            "standing ", " standing 0 0 1", "Standing 0 0 1", "0 0 1", "standing 0 0 1 0 0", "standing 0 zero 1",
        ]
        standings += [f"standing 0 {number} 1" for number in NO_NUMBERS]
        for floor in floors:
            for behind in ("standing 0 0 1", "standing 9 9 9", "wrong", "standing"):
                self.assert_bad(5, PROGRAM + [floor, behind, "deeds", "wrong"])
        for standing in standings:
            # A standing without its form comes ahead of a floor that is refused.
            for ahead in ("floor ring 4", "floor ring 99", "floor any 4"):
                self.assert_bad(6, PROGRAM + [ahead, standing, "deeds", "wrong"])

    def test_a_floor_and_a_standing_that_are_refused(self):
        floors = ("ring 2", "ring 9", "row 0", "row 9", "ring -4", "any 4", "Ring 4", "4 4", "standing 0", "row -1")
        for floor in floors:
            for standing in ("standing 0 0 1", "standing 9 0 1", "standing"):
                self.assert_bad(5, PROGRAM + ["floor " + floor, standing, "deeds", "wrong"])
        standings = (
            "standing", "standing 4 0 1", "standing -1 0 1", "standing 0 2 1", "standing 0 0 0", "standing 0 -1 1",
            "standing" + " 0 0 1" * 6, "standing 0 0 1 0 0 2", "standing 0 0 -2",
        )
        for standing in standings:
            self.assert_bad(6, PROGRAM + ["floor ring 4", standing, "deeds", "wrong"])

    def test_deeds_without_form(self):
        for line in NO_DEEDS:
            self.assert_bad(8, HEAD + [line])
            self.assert_bad(9, HEAD + ["look 0", line, "think 9"])
        for number in NO_NUMBERS:
            for word in ("look", "think", "step", "go", "turns"):
                self.assert_bad(8, HEAD + [f"{word} {number}"])
            self.assert_bad(9, HEAD + ["turns 1", f"stand 0 {number} 1"])

    def test_deeds_that_are_refused(self):
        for line in REFUSED:
            self.assert_bad(8, HEAD + [line])
            self.assert_bad(10, HEAD + ["turns 1", "turns 0", line, "wrong"])
        self.assert_bad(9, HEAD + ["look 0", "look 0"])
        self.assert_bad(10, HEAD + ["go 1", "stand 0 0 1", "go 1"])

    def test_a_line_feed_at_the_end(self):
        self.assert_bad(8, HEAD + [""])
        self.assert_bad(9, HEAD + ["go 0", ""])

    def test_a_second_line_deeds(self):
        self.assert_bad(8, HEAD + ["deeds"])
        self.assert_bad(3, HEAD[:4] + ["deeds"] * 3)
        self.assert_bad(3, ["marks 1", "step 0", "deeds", "mark 0", "floor row 1", "standing 0 0 1", "deeds"])


if __name__ == "__main__":
    unittest.main()

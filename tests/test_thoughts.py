"""Point 5: what programs tell of views, and where steps lead."""

import random
import unittest

from onestillview.errors import BadFloor, BadPlace, BadSense, BadStep, BadView, NoProgram
from onestillview.floors import view
from onestillview.texts import Program, moved, program_of, thought
from tests.helpers import BAD_FLOORS, FLOORS, NO_NUMBERS, STILL, Refusals, random_standing, told_view, walked

APART = Program(
    "marks 2\nlet near less ahead behind\nlet alone same others 0\nstep pick alone pick near -1 1 0\nmark count 0"
)
RING, ROW = ("ring", 5), ("row", 4)
HERE = (0, (), ((), (0,), (), (1,)), ((1,), (), (0,), ()))
END = (1, (0,), (), ((), (1,), ()))
# On a row of five, seen from place 3 with sense 1: one ahead, two here, one far behind.
MIDST = (2, (0, 3), ((1,),), ((), (), (1,)))
FIVE = ("row", 5)
ROUND = (3, (), ((0, 2), (), (), (1,), (), (2,)), ((2,), (), (1,), (), (), (0, 2)))
SEVEN = ("ring", 7)
MANY_PARTS = {"count": 1, "room": 1, "half": 1, "turn": 1, "marked": 2, "plus": 2, "less": 2, "same": 2, "pick": 3}


class ThoughtCase(Refusals, unittest.TestCase):
    def assert_value(self, words, expected, floor, seen):
        """The expression has this value, told by a text of lets, or an integer from -99 to 99."""
        program = Program(f"marks 4\nlet x {words}\nlet y same x {expected}\nstep pick y -1 1\nmark y")
        self.assertEqual(thought(program, floor, seen), (1, 1), (words, expected))

    def assert_same(self, lets, one, other, is_same=True):
        """Behind these lets two expressions have the same value, or not."""
        program = program_of(2, lets, f"same {one} {other}", "0")
        self.assertEqual(thought(program, RING, HERE), (1 if is_same else 0, 0), (one, other))


class WordsTest(ThoughtCase):
    def test_the_examples(self):
        self.assertEqual(thought(APART, RING, HERE), (-1, 0))
        self.assertEqual(thought(APART, ROW, END), (1, 1))
        far = program_of(4, (("far", "plus size -2"),), "room far", "plus marked -1 1 marked 7 0")
        self.assertEqual(thought(far, RING, HERE), (1, 2))
        self.assertEqual(thought(far, ROW, END), (0, 0))

    def test_kinds_of_what_is_told(self):
        for program, floor, seen in ((APART, RING, HERE), (APART, ROW, END), (STILL, ROW, (0, (), (), ((),) * 3))):
            told = thought(program, floor, seen)
            self.assertIs(type(told), tuple)
            self.assertEqual([type(part) for part in told], [int, int])
        told = thought(Program("marks 2\nstep same 1 1\nmark less 0 1"), RING, HERE)
        self.assertEqual([type(part) for part in told], [int, int])

    def test_integers(self):
        for number in range(-99, 100):
            self.assert_value(str(number), number, RING, HERE)
            self.assert_value(f"plus {number} 1", f"plus 1 {number}", RING, HERE)

    def test_mine_others_size(self):
        for floor, seen, values in ((RING, HERE, (0, 2, 5)), (ROW, END, (1, 2, 4)), (FIVE, MIDST, (2, 4, 5)),
                                    (SEVEN, ROUND, (3, 4, 7)), (("row", 1), (3, (), (), ()), (3, 0, 1)),
                                    (("row", 1), (0, (1, 1, 2, 3), (), ()), (0, 4, 1)),
                                    (("ring", 8), (1, (2,), ((),) * 7, ((),) * 7), (1, 1, 8))):
            for word, value in zip(("mine", "others", "size"), values):
                self.assert_value(word, value, floor, seen)

    def test_ahead_and_behind(self):
        nobody = ((), (), ())
        for floor, seen, values in (
            (RING, HERE, (2, 1)), (ROW, END, (0, 2)), (FIVE, MIDST, (1, 3)), (SEVEN, ROUND, (1, 1)),
            (ROW, (0, (), nobody, ()), (0, 0)), (ROW, (0, (1, 2), nobody, ()), (0, 0)),
            (ROW, (0, (), ((), (), (0,)), ()), (3, 0)), (ROW, (0, (), (), ((), (), (0,))), (0, 3)),
            (ROW, (0, (), ((0,), (0,)), ((1,),)), (1, 1)), (("row", 1), (0, (0, 0), (), ()), (0, 0)),
            (("ring", 4), (0, (3,), nobody, nobody), (0, 0)),
            (("ring", 4), (0, (), ((), (), (0,)), ((0,), (), ())), (3, 1)),
        ):
            self.assert_value("ahead", values[0], floor, seen)
            self.assert_value("behind", values[1], floor, seen)

    def test_count_on_a_row_and_beyond_its_ends(self):
        counts = {0: 2, 1: 1, -1: 0, -2: 0, -3: 1}
        for steps in range(-99, 100):
            self.assert_value(f"count {steps}", counts.get(steps, 0), FIVE, MIDST)

    def test_count_on_a_ring_round_and_round(self):
        counts = [0, 2, 0, 0, 1, 0, 1]
        for steps in range(-99, 100):
            self.assert_value(f"count {steps}", counts[steps % 7], SEVEN, ROUND)
        crowd = (0, (1, 2, 3), ((), ()), ((), ()))
        for steps in range(-99, 100):
            self.assert_value(f"count {steps}", 0 if steps % 3 else 3, ("ring", 3), crowd)

    def test_marked(self):
        for steps in range(-12, 13):
            for mark in range(-2, 7):
                cell = (ROUND[1],) + ROUND[2]
                self.assert_value(f"marked {steps} {mark}", cell[steps % 7].count(mark), SEVEN, ROUND)
                row = {0: MIDST[1], 1: (1,), -3: (1,)}
                self.assert_value(f"marked {steps} {mark}", row.get(steps, ()).count(mark), FIVE, MIDST)
        self.assert_value("marked 0 1", 3, ("row", 1), (0, (1, 1, 1, 2), (), ()))
        self.assert_value("marked 0 0", 0, ("row", 1), (0, (1, 1, 1, 2), (), ()))
        self.assert_value("marked 2 0", 2, ("row", 3), (0, (), ((), (0, 0, 1)), ()))

    def test_steps_and_marks_are_expressions(self):
        self.assert_value("count turn behind", 1, FIVE, MIDST)
        self.assert_value("count turn mine", 0, FIVE, MIDST)
        self.assert_value("marked ahead plus mine -1", 1, FIVE, MIDST)
        self.assert_value("marked 1 mine", 1, SEVEN, (2,) + ROUND[1:])
        self.assert_value("count plus 99 plus 99 97", 2, SEVEN, (2,) + ROUND[1:])
        self.assert_value("marked plus -99 plus -99 -97 2", 1, SEVEN, (2,) + ROUND[1:])

    def test_room(self):
        for steps in range(-99, 100):
            self.assert_value(f"room {steps}", 1 if -3 <= steps <= 1 else 0, FIVE, MIDST)
            self.assert_value(f"room {steps}", 1 if -3 <= steps <= 0 else 0, ROW, END)
            self.assert_value(f"room {steps}", 1, SEVEN, ROUND)
            self.assert_value(f"room {steps}", 1 if steps == 0 else 0, ("row", 1), (0, (), (), ()))

    def test_plus_is_held(self):
        self.assert_value("plus 2 3", 5, RING, HERE)
        self.assert_value("plus -2 -3", -5, RING, HERE)
        self.assert_value("plus 99 -99", 0, RING, HERE)
        nearly = (("a", "plus 99 " * 9 + "99"), ("b", "plus a 8"), ("c", "plus b 1"), ("d", "turn b"), ("e", "turn c"))
        # a is 990, b 998, c 999, d -998, e -999.
        for one, other in (
            ("b", "c"), ("d", "e"), ("plus a 9", "b"), ("plus d -1", "d"), ("c", "plus c -1"), ("e", "plus e 1"),
        ):
            self.assert_same(nearly, one, other, False)
        for one, other in (
            ("plus b 1", "c"), ("plus b 2", "c"), ("plus c 0", "c"), ("plus c 1", "c"), ("plus a a", "c"),
            ("plus c c", "c"), ("plus d -1", "e"), ("plus d -2", "e"), ("plus e -1", "e"), ("plus e e", "e"),
            ("plus c e", "0"), ("plus c -1", "b"), ("plus e 1", "d"), ("plus -9 plus 99 c", "a"),
            ("plus 9 plus -99 e", "turn a"),
            ("plus plus c 99 -99", "plus a -90"), ("half c", "plus 99 plus 99 plus 99 plus 99 plus 99 4"),
            ("plus half e half c", "-1"), ("turn plus e e", "c"), ("turn plus c c", "e"),
        ):
            self.assert_same(nearly, one, other)

    def test_less_and_same(self):
        for one in (-99, -2, -1, 0, 1, 2, 99):
            for other in (-99, -2, -1, 0, 1, 2, 99):
                self.assert_value(f"less {one} {other}", 1 if one < other else 0, RING, HERE)
                self.assert_value(f"same {one} {other}", 1 if one == other else 0, RING, HERE)

    def test_half_is_rounded_down(self):
        for number in range(-99, 100):
            self.assert_value(f"half {number}", number // 2, RING, HERE)
        for number, half in ((-1, -1), (-2, -1), (-3, -2), (1, 0), (2, 1), (3, 1), (0, 0)):
            self.assert_value(f"half {number}", half, RING, HERE)

    def test_turn(self):
        for number in range(-99, 100):
            self.assert_value(f"turn {number}", -number, RING, HERE)
        self.assert_value("turn half -3", 2, RING, HERE)
        self.assert_value("half turn 3", -2, RING, HERE)

    def test_pick(self):
        self.assert_value("pick 0 5 7", 5, RING, HERE)
        for number in (-99, -1, 1, 2, 99):
            self.assert_value(f"pick {number} 5 7", 7, RING, HERE)
        self.assert_value("pick same 1 2 pick 1 3 4 pick 0 5 6", 4, RING, HERE)

    def test_words_take_theirs_from_left_to_right(self):
        self.assert_value("pick less 2 1 plus 10 -3 half 9", 7, RING, HERE)
        self.assert_value("plus pick 1 2 3 pick 0 40 5", 43, RING, HERE)
        self.assert_value("less turn 1 half 0", 1, RING, HERE)
        self.assert_value("less half 0 turn 1", 0, RING, HERE)

    def test_lets_tell_lets(self):
        lets = (("a", "5"), ("b", "plus a a"), ("c", "plus b a"), ("d", "plus turn c b"), ("e", "d"), ("f", "plus e c"))
        for name, value in (("a", 5), ("b", 10), ("c", 15), ("d", -5), ("e", -5), ("f", 10)):
            self.assertEqual(thought(program_of(2, lets, f"same {name} {value}", "0"), RING, HERE), (1, 0))
        twice = tuple((f"a{number}", f"plus a{number - 1} a{number - 1}" if number else "mine") for number in range(6))
        self.assertEqual(thought(program_of(4, twice, "same a5 96", "0"), RING, (3,) + HERE[1:]), (1, 0))

    def test_steps_by_their_sign(self):
        for number in range(-99, 100):
            told = thought(Program(f"marks 1\nstep {number}\nmark 0"), RING, HERE[:1] + ((), ((),) * 4, ((),) * 4))
            self.assertEqual(told, ((number > 0) - (number < 0), 0))

    def test_marks_are_held(self):
        alone = (0, (), ((),) * 4, ((),) * 4)
        for marks in (1, 2, 3, 4):
            for number in range(-99, 100):
                told = thought(Program(f"marks {marks}\nstep 0\nmark {number}"), RING, alone)
                self.assertEqual(told, (0, max(0, min(number, marks - 1))))


def parsed(words):
    """The first expression of a list of words, as a tree, taking its words away."""
    word = words.pop(0)
    return [word] + [parsed(words) for _ in range(MANY_PARTS.get(word, 0))]


def plain_value(tree, names, floor, seen):
    """The value of a tree, as the table tells it."""
    word = tree[0]
    mine, here, ahead, behind = seen
    rest = [plain_value(part, names, floor, seen) for part in tree[1:]]
    if word in names:
        return names[word]
    if word in ("mine", "size"):
        return {"mine": mine, "size": floor[1]}[word]
    if word == "others":
        return len(here) + sum(map(len, ahead)) + (sum(map(len, behind)) if floor[0] == "row" else 0)
    if word in ("ahead", "behind"):
        side = ahead if word == "ahead" else behind
        return min([number for number, cell in enumerate(side, 1) if cell], default=0)
    if word in ("count", "marked", "room"):
        places = {0: here}
        for number in range(1, 1000):
            if floor[0] == "ring":
                places[number] = ((here,) + ahead)[number % floor[1]]
                places[-number] = ((here,) + behind)[number % floor[1]]
            else:
                places.update({number: ahead[number - 1]} if number <= len(ahead) else {})
                places.update({-number: behind[number - 1]} if number <= len(behind) else {})
        cell = places.get(rest[0])
        if word == "room":
            return int(cell is not None)
        return len([mark for mark in cell or () if word == "count" or mark == rest[1]])
    if word == "plus":
        return sorted((-999, sum(rest), 999))[1]
    if word in ("less", "same"):
        return int(rest[0] < rest[1]) if word == "less" else int(rest[0] == rest[1])
    if word == "half":
        return (rest[0] - rest[0] % 2) // 2
    if word == "turn":
        return 0 - rest[0]
    if word == "pick":
        return rest[2] if rest[0] else rest[1]
    return int(word)


def plain_thought(text, floor, seen):
    """The (step, mark) of a program's text, told anew."""
    lines = [line.split(" ") for line in text.split("\n")]
    names = {}
    for line in lines[1:-2]:
        names[line[1]] = plain_value(parsed(line[2:]), names, floor, seen)
    step = plain_value(parsed(lines[-2][1:]), names, floor, seen)
    mark = plain_value(parsed(lines[-1][1:]), names, floor, seen)
    return ((step > 0) - (step < 0), max(0, min(mark, int(lines[0][1]) - 1)))


def random_expression(chance, names, deep):
    """Some expression, at most so deep."""
    if deep == 1 or chance.random() < 0.25:
        words = ["mine", "others", "size", "ahead", "behind"] + names * 2
        figures = "-99 -7 -2 -1 0 0 1 1 2 3 9 99".split(" ")
        return chance.choice(words if chance.random() < 0.6 else figures)
    word, many = chance.choice(sorted(MANY_PARTS.items()))
    return " ".join([word] + [random_expression(chance, names, deep - 1) for _ in range(many)])


def random_text(chance):
    """Some program's text."""
    lines = [f"marks {chance.randint(1, 4)}"]
    names = []
    for number in range(chance.randint(0, 6)):
        lines.append(f"let v{number} {random_expression(chance, names, 3)}")
        names.append(f"v{number}")
    lines.append(f"step {random_expression(chance, names, 4)}")
    lines.append(f"mark {random_expression(chance, names, 4)}")
    return "\n".join(lines)


class ManyThoughtsTest(Refusals, unittest.TestCase):
    def test_many_programs_on_many_views(self):
        chance = random.Random(13)
        done = 0
        while done < 400:
            text = random_text(chance)
            if max(len(line.split(" ")) for line in text.split("\n")) > 40:
                continue
            done += 1
            program = Program(text)
            for _ in range(4):
                floor = chance.choice(FLOORS)
                standing = random_standing(chance, floor, program.marks)
                seen = told_view(floor, standing, 0)
                self.assertEqual(thought(program, floor, seen), plain_thought(text, floor, seen), (text, floor, seen))

    def test_what_view_tells_can_be_thought_of(self):
        chance = random.Random(14)
        program = Program("marks 4\nstep ahead\nmark mine")
        for floor in FLOORS:
            for _ in range(10):
                standing = random_standing(chance, floor)
                for walker in range(len(standing)):
                    self.assertEqual(thought(program, floor, view(floor, standing, walker))[1], standing[walker][1])


class ThoughtRefusalsTest(Refusals, unittest.TestCase):
    def test_what_is_no_program(self):
        for value in (None, True, False, 0, 1, "", STILL.text, (), (STILL,), [STILL], {}, ("marks 1", "step 0")):
            self.assert_refused(NoProgram, value, thought, value, ("row", 1), (0, (), (), ()))

    def test_what_is_no_floor(self):
        for floor in BAD_FLOORS:
            self.assert_refused(BadFloor, floor, thought, STILL, floor, (0, (), (), ()))

    def test_what_is_no_view(self):
        empty = ((), ())
        for seen in NO_NUMBERS + (
            0, (0, (), empty), (0, (), empty, empty, ()), [0, (), empty, empty], (True, (), empty, empty),
            (0, [], empty, empty), (0, (), [(), ()], empty), (0, (), ((), [])), (0, (), ((), ()), ((),)),
            (0, (), ((0,), ()), ((0,), ())), (4, (), empty, empty), (0, (0,) * 5, empty, empty),
            (0, (3, 1), empty, empty), (0, (), empty, ((), (True,))), (0, (False,), empty, empty),
            (-1, (), empty, empty),
        ):
            self.assert_refused(BadView, seen, thought, Program("marks 4\nstep 0\nmark 0"), ("ring", 3), seen)
        seen = (0, (), empty, empty)
        self.assertEqual(thought(STILL, ("ring", 3), seen), (0, 0))
        self.assert_refused(BadView, seen, thought, STILL, ("ring", 4), seen)
        self.assert_refused(BadView, seen, thought, STILL, ("row", 3), seen)
        self.assertEqual(thought(STILL, ("row", 5), seen), (0, 0))

    def test_marks_that_the_program_has_not(self):
        for marks in (1, 2, 3, 4):
            program = Program(f"marks {marks}\nstep 0\nmark 0")
            for mark in (0, 1, 2, 3):
                for floor, seen in (
                    (("row", 1), (mark, (), (), ())),
                    (("row", 2), (0, (mark,), ((),), ())),
                    (("row", 2), (0, (0, 0, mark), ((),), ())),
                    (("row", 2), (0, (), ((0, mark),), ())),
                    (("row", 2), (0, (), (), ((mark,),))),
                    (("row", 3), (0, (), ((0,),), ((mark,),))),
                    (("ring", 3), (0, (), ((), (mark,)), ((mark,), ()))),
                ):
                    if mark < marks:
                        self.assertEqual(thought(program, floor, seen), (0, 0))
                    else:
                        self.assert_refused(BadView, seen, thought, program, floor, seen)

    def test_several_wrong_at_once(self):
        self.assert_refused(NoProgram, 1, thought, 1, 2, 3)
        self.assert_refused(BadFloor, 2, thought, STILL, 2, 3)
        self.assert_refused(BadView, 3, thought, STILL, ("row", 2), 3)


class MovedTest(Refusals, unittest.TestCase):
    def test_the_example(self):
        told = [moved(RING, 0, 1, -1), moved(RING, 0, -1, 1), moved(ROW, 3, 1, 1), moved(ROW, 3, -1, 1)]
        self.assertEqual(told, [4, 4, 3, 2])

    def test_every_step_on_every_floor(self):
        for floor in FLOORS:
            for place in range(floor[1]):
                for sense in (1, -1):
                    for step in (1, 0, -1):
                        reached = walked(floor, place, sense * step)
                        self.assertEqual(moved(floor, place, sense, step), place if reached is None else reached)

    def test_both_ends_of_a_row(self):
        for size in range(1, 9):
            row, last = ("row", size), size - 1
            self.assertEqual([moved(row, 0, -1, 1), moved(row, 0, 1, -1)], [0, 0])
            self.assertEqual([moved(row, last, 1, 1), moved(row, last, -1, -1)], [last, last])
        self.assertEqual([moved(ROW, 0, 1, 1), moved(ROW, 0, -1, -1)], [1, 1])
        self.assertEqual([moved(ROW, 3, -1, 1), moved(ROW, 3, 1, -1)], [2, 2])

    def test_both_ways_round_a_ring(self):
        self.assertEqual([moved(("ring", 3), 2, 1, 1), moved(("ring", 3), 2, -1, -1)], [0, 0])
        self.assertEqual([moved(("ring", 8), 0, -1, 1), moved(("ring", 8), 0, 1, -1)], [7, 7])

    def test_refusals(self):
        for floor in BAD_FLOORS:
            self.assert_refused(BadFloor, floor, moved, floor, 0, 1, 1)
        for floor in FLOORS:
            for place in NO_NUMBERS + (-1, floor[1], 99):
                self.assert_refused(BadPlace, place, moved, floor, place, 1, 1)
        for sense in NO_NUMBERS + (0, 2, -2, 99):
            self.assert_refused(BadSense, sense, moved, ROW, 0, sense, 1)
        for step in NO_NUMBERS + (2, -2, 99):
            self.assert_refused(BadStep, step, moved, ROW, 0, 1, step)

    def test_several_wrong_at_once(self):
        self.assert_refused(BadFloor, "a", moved, "a", "b", "c", "d")
        self.assert_refused(BadPlace, "b", moved, ROW, "b", "c", "d")
        self.assert_refused(BadSense, "c", moved, ROW, 0, "c", "d")
        self.assert_refused(BadStep, "d", moved, ROW, 0, 1, "d")


if __name__ == "__main__":
    unittest.main()

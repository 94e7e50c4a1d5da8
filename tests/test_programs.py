"""Point 5: which texts are programs, and programs as values."""

import unittest

from onestillview.errors import BadProgram
from onestillview.texts import Program, program_of
from tests.helpers import NO_TUPLES, Refusals

TABLE = {
    "mine": 0, "others": 0, "size": 0, "ahead": 0, "behind": 0, "count": 1, "marked": 2, "room": 1,
    "plus": 2, "less": 2, "same": 2, "half": 1, "turn": 1, "pick": 3,
}
APART = "marks 2\nlet near less ahead behind\nlet alone same others 0\nstep pick alone pick near -1 1 0\nmark count 0"


def text_of(*lines):
    """These lines as one text."""
    return "\n".join(lines)


class ProgramTest(Refusals, unittest.TestCase):
    def assert_wrong(self, number, text):
        """The text is no program, by this line."""
        self.assert_numbered(BadProgram, number, Program, text)

    def assert_expression(self, words, is_right):
        """Wherever an expression can stand, these words are one, or none."""
        places = (
            (2, text_of("marks 1", f"let name {words}", "step 0", "mark 0")),
            (2, text_of("marks 1", f"step {words}", "mark 0")),
            (3, text_of("marks 1", "step 0", f"mark {words}")),
            (3, text_of("marks 1", "let name 0", f"let other {words}", "step name", "mark other")),
        )
        for number, text in places:
            if is_right:
                self.assertEqual(Program(text).text, text)
            else:
                self.assert_wrong(number, text)

    def test_the_examples(self):
        self.assertEqual(Program(APART).marks, 2)
        self.assert_wrong(0, None)
        self.assert_wrong(1, "")
        self.assert_wrong(1, "marks 5\nstep 0\nmark 0")
        self.assert_wrong(2, "marks 1\nstep far\nmark 0")
        self.assert_wrong(3, "marks 1\nstep 0")
        self.assert_wrong(2, "marks 1\nmark 0\nstep 0")

    def test_what_is_no_string(self):
        lines = ["marks 1", "step 0", "mark 0"]
        for value in (None, True, False, 0, 1, (), tuple(lines), [], lines, {}, Program(APART)):
            self.assert_wrong(0, value)

    def test_the_properties(self):
        for marks in (1, 2, 3, 4):
            text = text_of(f"marks {marks}", "step 0", "mark 0")
            program = Program(text)
            self.assertEqual((program.text, program.marks), (text, marks))
            self.assertIs(type(program.marks), int)

    def test_equality(self):
        program = Program(APART)
        other = Program("marks 2\nstep 0\nmark 0")
        self.assertTrue(program == Program(APART))
        self.assertFalse(program != Program(APART))
        self.assertTrue(other != program)
        self.assertFalse(other == program)
        # They tell the same, by another text.
        self.assertNotEqual(Program("marks 1\nstep 0\nmark 0"), Program("marks 1\nstep plus 0 0\nmark 0"))
        for value in (APART, None, 0, 1, True, False, (), (APART,), [APART], {}, {"text": APART}):
            self.assertFalse(program == value)
            self.assertTrue(program != value)
            self.assertFalse(value == program)

    def test_the_line_of_marks(self):
        behind = "\nstep 0\nmark 0"
        wrong = (
            "", "marks", "marks ", "marks 0", "marks 5", "marks -1", "marks 10", "marks 01", "marks +1", "marks 1 ",
            " marks 1", "marks  1", "marks 1 1", "mark 1", "Marks 1", "marks one", "marks -0", "1", "1 marks",
            "marks 1_0", "marks 2.0", "step 0", "let a 0", "mark 0", "marks size", "marks 11",
        )
        for line in wrong:
            self.assert_wrong(1, line + behind)
            self.assert_wrong(1, line)
        self.assert_wrong(2, "marks 1\nmarks 1" + behind)

    def test_texts_that_end_too_early(self):
        self.assert_wrong(2, "marks 1")
        self.assert_wrong(3, "marks 1\nlet a 0")
        self.assert_wrong(4, "marks 1\nlet a 0\nlet b 0")
        self.assert_wrong(3, "marks 1\nstep 0")
        self.assert_wrong(4, "marks 1\nlet a 0\nstep 0")

    def test_lines_that_cannot_stand_where_they_do(self):
        self.assert_wrong(2, "marks 1\n")
        self.assert_wrong(2, "marks 1\n\nstep 0\nmark 0")
        self.assert_wrong(1, "\nmarks 1\nstep 0\nmark 0")
        self.assert_wrong(4, "marks 1\nstep 0\nmark 0\n")
        self.assert_wrong(4, "marks 1\nstep 0\nmark 0\n\n")
        self.assert_wrong(4, "marks 1\nstep 0\nmark 0\nmark 0")
        self.assert_wrong(4, "marks 1\nstep 0\nmark 0\nstep 0")
        self.assert_wrong(4, "marks 1\nstep 0\nmark 0\nlet a 0")
        self.assert_wrong(4, "marks 1\nstep 0\nmark 0\nmarks 1")
        self.assert_wrong(3, "marks 1\nstep 0\nstep 0\nmark 0")
        self.assert_wrong(3, "marks 1\nstep 0\nlet a 0\nmark 0")
        self.assert_wrong(3, "marks 1\nstep 0\nmarks 1\nmark 0")
        self.assert_wrong(3, "marks 1\nstep 0\n\nmark 0")
        self.assert_wrong(2, "marks 1\nmark 0")
        self.assert_wrong(2, "marks 1\nroom 0\nstep 0\nmark 0")
        self.assert_wrong(2, "marks 1\n0\nstep 0\nmark 0")

    def test_the_first_wrong_line_is_told(self):
        self.assert_wrong(1, "marks 9\nlet 1 1\nstep\nmark")
        self.assert_wrong(2, "marks 1\nlet 1 1\nstep\nmark")
        self.assert_wrong(3, "marks 1\nlet a 1\nstep\nmark")
        self.assert_wrong(4, "marks 1\nlet a 1\nstep a\nmark")
        self.assert_wrong(5, "marks 1\nlet a 1\nstep a\nmark a\n")

    def test_blanks_too_many(self):
        for line in (" step 0", "step 0 ", "step  0", "step plus 0  0", "step", "step ", " ", "  "):
            self.assert_wrong(2, f"marks 1\n{line}\nmark 0")
        for line in (" mark 0", "mark 0 ", "mark  0", "mark plus  0 0", "mark", "mark "):
            self.assert_wrong(3, f"marks 1\nstep 0\n{line}")
        for line in (" let a 0", "let a 0 ", "let  a 0", "let a  0", "let a ", "let a", "let ", "let", "let  0"):
            self.assert_wrong(2, f"marks 1\n{line}\nstep 0\nmark 0")

    def test_case_and_other_signs(self):
        lines = (
            "Step 0", "STEP 0", "step: 0", "step (0)", "step 0,", "step plus(0 0)", "step Mine", "step MINE", "step .",
        )
        for line in lines:
            self.assert_wrong(2, f"marks 1\n{line}\nmark 0")

    def test_names_that_can_be_told(self):
        names = "a z a0 a9 abcdef ghijkl mnopqr stuvwx yz1234 z99999 lets steps m e not half2 minee roomy ring"
        for name in names.split(" "):
            program = Program(f"marks 1\nlet {name} 0\nstep {name}\nmark {name}")
            self.assertEqual(program.marks, 1)

    def test_names_that_cannot_be_told(self):
        names = ["abcdefg", "0", "1", "1a", "9abc", "-1", "A", "aB", "a_b", "a-b", "_a", "a.b", "a'", "abc!", "99999a"]
        for name in names + ["marks", "let", "step", "mark"] + list(TABLE):
            self.assert_wrong(2, f"marks 1\nlet {name} 0\nstep 0\nmark 0")

    def test_a_name_is_told_once(self):
        self.assert_wrong(3, "marks 1\nlet a 0\nlet a 0\nstep 0\nmark 0")
        self.assert_wrong(4, "marks 1\nlet a 0\nlet b 1\nlet a 2\nstep 0\nmark 0")

    def test_a_name_is_used_behind_its_let_alone(self):
        self.assertEqual(Program("marks 1\nlet a 0\nlet b plus a a\nstep b\nmark a").marks, 1)
        self.assert_wrong(2, "marks 1\nlet a a\nstep 0\nmark 0")
        self.assert_wrong(2, "marks 1\nlet a half a\nstep 0\nmark 0")
        self.assert_wrong(2, "marks 1\nlet a b\nlet b 0\nstep 0\nmark 0")
        self.assert_wrong(3, "marks 1\nlet a 0\nlet b plus a c\nlet c 0\nstep 0\nmark 0")
        self.assert_wrong(2, "marks 1\nstep a\nmark 0")
        self.assert_wrong(3, "marks 1\nstep 0\nmark a")
        self.assert_wrong(3, "marks 1\nlet a 0\nstep b\nmark a")

    def test_six_lets_and_seven(self):
        for many in range(9):
            lets = [f"let a{number} {number}" for number in range(many)]
            text = text_of("marks 1", *lets, "step 0", "mark 0")
            if many <= 6:
                self.assertEqual(Program(text).text, text)
            else:
                self.assert_wrong(8, text)

    def test_each_word_of_the_table_takes_as_many_expressions(self):
        for word, many in TABLE.items():
            for behind in range(5):
                self.assert_expression(" ".join([word] + ["0"] * behind), behind == many)
                self.assert_expression(" ".join([word] + ["mine"] * behind), behind == many)

    def test_one_expression_and_no_more(self):
        wrong = (
            "0 0", "mine 0", "0 mine", "plus 0", "plus 0 0 0", "half", "half 0 0", "pick 0 0", "pick 0 0 0 0", "0 half",
            "plus half 0", "half plus 0", "plus plus 0 0", "plus 0 0 plus 0 0", "marks", "let", "step", "mark",
            "step 0", "marks 1", "let a 0", "E", "F", "NAME", "unknown", "mines", "min", "a", "",
        )
        for words in wrong:
            self.assert_expression(words, False)
        right = (
            "plus half 0 turn 0", "pick plus 0 1 half 2 marked 3 4", "plus plus 0 0 plus 0 0", "count count count 0",
            "room room size", "marked ahead behind", "less same 0 0 others",
        )
        for words in right:
            self.assert_expression(words, True)

    def test_integers_as_python_writes_them(self):
        for number in range(-99, 100):
            self.assert_expression(str(number), True)
        wrong = (
            "100", "-100", "999", "-999", "1000", "123456789", "-123456789", "00", "01", "-01", "-00", "-0", "+0", "+1",
            "--1", "1-", "-", "-a", "1a", "0x1", "1.0", "1e1", "1_0", "007", "099", "-099", "'1'", "1,",
        )
        for word in wrong:
            self.assert_expression(word, False)
            self.assert_expression(f"half {word}", False)

    def test_forty_words_and_more(self):
        # Each plus and its 0 are two words more, one deeper; side by side they stay within ten deep.
        def wide(many):
            """An expression of so many words, an odd number."""
            if many == 1:
                return "0"
            left = (many - 1) // 2
            left = left if left % 2 else left - 1
            return f"plus {wide(left)} {wide(many - 1 - left)}"

        self.assertEqual(len(wide(39).split(" ")), 39)
        right = text_of("marks 1", f"step {wide(39)}", f"mark {wide(39)}")
        self.assertEqual(Program(right).text, right)
        self.assert_wrong(2, text_of("marks 1", f"step half {wide(39)}", "mark 0"))
        self.assert_wrong(3, text_of("marks 1", "step 0", f"mark half {wide(39)}"))
        self.assert_wrong(2, text_of("marks 1", f"step {wide(41)}", "mark 0"))
        self.assertEqual(Program(text_of("marks 1", f"let a half {wide(37)}", "step 0", "mark 0")).marks, 1)
        self.assert_wrong(2, text_of("marks 1", f"let a {wide(39)}", "step 0", "mark 0"))

    def test_ten_deep_and_eleven(self):
        for words in ("0", "mine", "size"):
            self.assert_expression("half " * 9 + words, True)
            self.assert_expression("half " * 10 + words, False)
        self.assert_expression("plus 0 " * 9 + "0", True)
        self.assert_expression("plus 0 " * 10 + "0", False)
        self.assert_expression("plus " * 9 + "0 " * 9 + "0", True)
        self.assert_expression("plus " * 10 + "0 " * 10 + "0", False)
        self.assert_expression("pick 0 " + "half " * 8 + "0 0", True)
        self.assert_expression("pick 0 " + "half " * 9 + "0 0", False)
        self.assert_expression("pick " + "half " * 9 + "0 0 0", False)
        self.assert_expression("plus " + "half " * 8 + "0 " + "half " * 8 + "0", True)

    def test_a_name_is_one_deep(self):
        deep = "half " * 9
        text = text_of("marks 1", f"let a {deep}0", f"let b {deep}a", f"step {deep}b", f"mark {deep}a")
        self.assertEqual(Program(text).text, text)
        self.assert_wrong(4, text_of("marks 1", f"let a {deep}0", f"let b {deep}a", f"step half {deep}b", "mark 0"))


class ProgramOfTest(Refusals, unittest.TestCase):
    def assert_wrong(self, number, *told):
        """No program comes of this, by this line."""
        self.assert_numbered(BadProgram, number, program_of, *told)

    def test_the_example(self):
        far = program_of(4, (("far", "plus size -2"),), "room far", "plus marked -1 1 marked 7 0")
        lines = ["marks 4", "let far plus size -2", "step room far", "mark plus marked -1 1 marked 7 0"]
        self.assertEqual(far.text.split("\n"), lines)

    def test_it_is_the_program_of_this_text(self):
        program = program_of(2, (), "0", "mine")
        self.assertEqual(program, Program("marks 2\nstep 0\nmark mine"))
        self.assertIs(type(program), Program)
        self.assertEqual(program.marks, 2)
        lets = tuple((f"a{number}", str(number)) for number in range(6))
        text = "marks 1\n" + "".join(f"let {name} {words}\n" for name, words in lets) + "step a5\nmark a0"
        self.assertEqual(program_of(1, lets, "a5", "a0").text, text)

    def test_what_is_of_another_kind(self):
        for marks in NO_TUPLES + ("1", (), (1,), ((1,),)):
            if type(marks) is not int:
                self.assert_wrong(0, marks, (), "0", "0")
        wrong = NO_TUPLES + (
            [("a", "0")], ("a", "0"), (("a",),), (("a", "0", "0"),), (["a", "0"],), ((),), (None,), ("ab",),
            (("a", 0),), ((0, "a"),), (("a", None),), ((None, "0"),), (("a", "0"), None), (("a", ("0",)),),
            ((True, "0"),), (("a", "0"), ("b", 1)),
        )
        for lets in wrong:
            self.assert_wrong(0, 1, lets, "0", "0")
        for text in (None, True, False, 0, 1, (), ("0",), ["0"], {}, Program("marks 1\nstep 0\nmark 0")):
            self.assert_wrong(0, 1, (), text, "0")
            self.assert_wrong(0, 1, (), "0", text)
        # What is of another kind counts ahead of lines that cannot stand.
        self.assert_wrong(0, 9, (("a", ""),), "", None)
        self.assert_wrong(0, 9, None, "0", "0")

    def test_lines_that_cannot_stand(self):
        for marks in (0, 5, -1, 99, 123456789):
            self.assert_wrong(1, marks, (), "0", "0")
        self.assert_wrong(2, 1, (("1", "0"),), "0", "0")
        self.assert_wrong(2, 1, (("", "0"),), "0", "0")
        self.assert_wrong(2, 1, (("a", ""),), "0", "0")
        self.assert_wrong(3, 1, (("a", "0"), ("a", "0")), "0", "0")
        self.assert_wrong(8, 1, tuple((f"a{number}", "0") for number in range(7)), "0", "0")
        self.assert_wrong(2, 1, (), "a", "0")
        self.assert_wrong(2, 1, (), "", "0")
        self.assert_wrong(3, 1, (), "0", "")
        self.assert_wrong(4, 1, (("a", "0"),), "0", " 0")
        self.assert_wrong(4, 1, (("a", "0"),), "0", "0 0")

    def test_whatever_signs_they_have(self):
        both = "marks 1\nlet a 0\nlet b 1\nstep b\nmark a"
        self.assertEqual(program_of(1, (("a", "0\nlet b 1"),), "b", "a").text, both)
        self.assertEqual(program_of(1, (("a 0\nlet b", "1"),), "b", "a").text, both)
        self.assertEqual(program_of(1, (("a plus", "1 2"),), "a", "a").text, "marks 1\nlet a plus 1 2\nstep a\nmark a")
        self.assert_wrong(4, 1, (), "0\nmark 0", "0")
        self.assert_wrong(3, 1, (), "0\n", "0")
        self.assert_wrong(4, 1, (), "0", "0\n")
        self.assert_wrong(2, 1, (("a\n", "0"),), "0", "0")
        self.assert_wrong(2, 1, (("a b", "0"),), "0", "0")


if __name__ == "__main__":
    unittest.main()

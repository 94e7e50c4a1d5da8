"""Point 14, and what point 2 says of errors."""

import unittest

from onestillview import errors
from onestillview.errors import WalkError
from onestillview.texts import Program

NAMES = (
    "NoProgram BadProgram BadFloor BadPlace BadSteps BadStanding BadWalker BadView BadTurn BadMirror BadSense BadStep "
    "BadLot BadLots BadKind BadMany Busy NoLook NoThought BadDeed BadLog Pending BadRule BadLamp BadSeen NotFine "
    "BadNumber BadSizes BadWord BadWeaving BadClaim BadMost Wide BadTimes NothingToUndo NothingToRedo NoBlock "
    "BadJournal BadTask"
).split(" ")


class ErrorsTest(unittest.TestCase):
    def test_walk_error_derives_from_value_error(self):
        self.assertEqual(WalkError.__bases__, (ValueError,))

    def test_each_error_is_directly_below_walk_error(self):
        for name in NAMES:
            self.assertEqual(getattr(errors, name).__bases__, (WalkError,), name)

    def test_each_error_has_a_class_of_its_own(self):
        self.assertEqual(len({getattr(errors, name) for name in NAMES}), 39)

    def test_each_error_is_defined_in_its_file_under_its_name(self):
        for name in NAMES + ["WalkError"]:
            found = getattr(errors, name)
            self.assertEqual((found.__name__, found.__module__), (name, "onestillview.errors"))

    def test_any_value_is_kept(self):
        nested = ()
        for _ in range(59):
            nested = (nested,)
        program = Program("marks 1\nstep 0\nmark 0")
        values = (
            0, -7, 10 ** 30, True, False, None, "", "text", (), (1, (2, [3])), [], [1], {}, {"a": [1]}, nested, program,
        )
        for name in NAMES + ["WalkError"]:
            for value in values:
                self.assertIs(getattr(errors, name)(value).value, value)

    def test_an_error_is_created_with_just_one_value(self):
        for name in NAMES + ["WalkError"]:
            with self.assertRaises(TypeError):
                getattr(errors, name)()
            with self.assertRaises(TypeError):
                getattr(errors, name)(1, 2)

    def test_errors_are_caught_as_value_errors(self):
        for name in NAMES:
            with self.assertRaises(ValueError) as caught:
                raise getattr(errors, name)(name)
            self.assertEqual(caught.exception.value, name)


if __name__ == "__main__":
    unittest.main()

"""Point 8, and guarantee (e): which lamps can be seen together."""

import random
import unittest

from onestillview.errors import BadMany
from onestillview.lamps import Lit, due, fine_rule, is_pattern, lit_of, patterns
from tests.helpers import NO_NUMBERS, NO_TUPLES, PROGRAMS, STILL, Refusals
from tests.models import CHANGES, LAMPS, random_log

UNDONE = (
    ("wait",), ("try", "wait"), ("try",), ("go", "try"), ("go",), ("go", "step"), ("go", "step", "wait"), ("step",),
    ("step", "wait"),
)
ALL = sorted(UNDONE + tuple(("done",) + pattern for pattern in UNDONE) + (
    ("done",), ("reset",), ("done", "reset"), ("reset", "wait"),
))


def shown_by(lamps):
    """The pattern of these lamps."""
    return tuple(sorted(set(lamps)))


def all_shown(many):
    """Each pattern that so many walkers come to show by the fine rule, with a log that leads to it."""
    # For each walker its lamp, and the change that was due at its look if it has not thought since.
    begin = (("wait", None),) * many
    logs, queue, found = {begin: ()}, [begin], {}
    for state in queue:
        log = logs[state]
        found.setdefault(shown_by(lamp for lamp, _ in state), log)
        for walker, (lamp, number) in enumerate(state):
            if number is None:
                others = shown_by(state[other][0] for other in range(many) if other != walker)
                entry = (lamp, due(fine_rule(), lamp, others))
                deeds = (("look", walker),)
            else:
                entry = (CHANGES[number][1], None)
                deeds = (("think", walker), ("step", walker))
            then = state[:walker] + (entry,) + state[walker + 1:]
            if then not in logs:
                logs[then] = log + deeds
                queue.append(then)
    return found


class PatternsTest(unittest.TestCase):
    def test_the_examples(self):
        self.assertEqual([len(patterns(many)) for many in (1, 2, 3, 4, 10 ** 30)], [6, 16, 21, 22, 22])
        self.assertIs(is_pattern(2, ("go", "step")), True)
        self.assertIs(is_pattern(2, ("go", "wait")), False)

    def test_one_two_and_three(self):
        self.assertEqual(patterns(1), (("done",), ("go",), ("reset",), ("step",), ("try",), ("wait",)))
        self.assertEqual(patterns(2), (
            ("done",), ("done", "go"), ("done", "reset"), ("done", "step"), ("done", "try"), ("done", "wait"), ("go",),
            ("go", "step"), ("go", "try"), ("reset",), ("reset", "wait"), ("step",), ("step", "wait"), ("try",),
            ("try", "wait"), ("wait",),
        ))
        more = {
            ("done", "go", "step"), ("done", "go", "try"), ("done", "step", "wait"), ("done", "try", "wait"),
            ("go", "step", "wait"),
        }
        self.assertEqual(patterns(3), tuple(sorted(set(patterns(2)) | more)))

    def test_all_greater_numbers(self):
        for many in (4, 5, 6, 100, 10 ** 9, 10 ** 30, 10 ** 300):
            self.assertEqual(patterns(many), tuple(ALL))
        self.assertEqual(set(ALL) - set(patterns(3)), {("done", "go", "step", "wait")})

    def test_kinds_of_what_is_told(self):
        for many in (1, 2, 3, 4):
            self.assertIs(type(patterns(many)), tuple)
            for pattern in patterns(many):
                self.assertIs(type(pattern), tuple)

    def test_just_those_that_come_about(self):
        for many in (1, 2, 3, 4, 5):
            found = all_shown(many)
            self.assertEqual(tuple(sorted(found)), patterns(many))
            for pattern, log in found.items():
                if many < 5:
                    lit = lit_of(STILL, ("row", 1), ((0, 0, 1),) * many, fine_rule(), log)
                    self.assertEqual(shown_by(lit.lamps), pattern)

    def test_each_that_a_lit_shows(self):
        chance = random.Random(81)
        for number in range(100):
            many = 1 + number % 5
            lit = Lit(chance.choice(PROGRAMS), ("ring", 5), ((0, 0, 1),) * many, fine_rule())
            for deed in random_log(chance, many, 150):
                lit.do(deed)
                self.assertIn(shown_by(lit.lamps), patterns(many))
                self.assertIs(is_pattern(many, shown_by(lit.lamps)), True)


class IsPatternTest(Refusals, unittest.TestCase):
    def test_each_ascending_tuple_of_lamps(self):
        for number in range(64):
            shown = tuple(lamp for at, lamp in enumerate(sorted(LAMPS)) if number >> at & 1)
            for many in (1, 2, 3, 4, 5, 10 ** 30):
                self.assertIs(is_pattern(many, shown), shown in ALL and len(shown) <= many, (many, shown))

    def test_any_value(self):
        values = NO_TUPLES + (
            (), "wait", ["wait"], ("Wait",), ("wait", "wait"), ("wait", "try"), ("step", "go"), ("go", "go", "step"),
            (("wait",),), (("go", "step"),), ("waits",), (None,), (0,), (True,), (["wait"],), ("wait", None),
            {"wait": 1}, ["go", "step"], ("go", ["step"]), ("go", "step", "wait", "done"), (STILL,),
            Lit(STILL, ("row", 1), ((0, 0, 1),), fine_rule()), patterns(4), LAMPS,
        )
        for value in values:
            for many in (1, 2, 3, 4, 10 ** 30):
                self.assertIs(is_pattern(many, value), False, value)

    def test_refusals(self):
        for many in NO_NUMBERS + (0, -1, -5, -10 ** 30):
            self.assert_refused(BadMany, many, patterns, many)
            for value in (("wait",), None, ()):
                self.assert_refused(BadMany, many, is_pattern, many, value)

    def test_arguments_by_name(self):
        self.assertEqual(len(patterns(many=2)), 16)
        self.assertIs(is_pattern(value=("done",), many=1), True)


if __name__ == "__main__":
    unittest.main()

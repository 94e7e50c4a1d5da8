"""Point 8: rules of lamps, and which change is due."""

import random
import unittest
from itertools import combinations

from onestillview.errors import BadLamp, BadRule, BadSeen
from onestillview.lamps import Lit, due, fine_rule, lit_of
from onestillview.texts import Program
from tests.helpers import NO_TUPLES, STILL, Refusals, refusal
from tests.models import CHANGES, LAMPS, NONE, OPEN, random_rule, told_due

SEENS = [seen for size in range(7) for seen in combinations(sorted(LAMPS), size)]
NO_LAMPS = NO_TUPLES + ("Wait", "WAIT", "waits", "wait ", " try", "goes", "stepped", "idle", "look", (), ("wait",))
# None of these is an ascending tuple of LAMPS.
NO_SEENS = NO_TUPLES + (
    "wait", ["wait"], ("Wait",), ("wait", "try"), ("try", "go"), ("wait", "wait"), ("go", "go", "try"),
    ("try", "wait", "done"), ("go", "step", "try", "wait", "wait"), (None,), (0,), (True,), ("",), (("wait",),), ((),),
    ("go", None), (None, "go"), (0, 1), ("go", "stop"), ("go", ["step"]), {"wait": 1}, (STILL,), ("idle",),
    ("done", "go", "reset", "step", "try", "wait", "zzz"), ("wait", "try", "go", "step", "done", "reset"),
)


def with_guard(number, guard):
    """The fine rule with another guard for this change."""
    return fine_rule()[:number] + (guard,) + fine_rule()[number + 1:]


class FineRuleTest(unittest.TestCase):
    def test_guard_by_guard(self):
        self.assertEqual(fine_rule(), (
            ((), ("reset", "step")),
            ((), ("wait",)),
            ((), ("step", "try")),
            (("step",), ()),
            ((), ("go",)),
            ((), ("go", "step", "try", "wait")),
            ((), ("done",)),
        ))

    def test_change_by_change(self):
        # What point 8 says of it: for each change, whether it is made by those who see these lamps.
        said = (
            lambda seen: "step" not in seen and "reset" not in seen,
            lambda seen: "wait" not in seen,
            lambda seen: "try" not in seen and "step" not in seen,
            lambda seen: "step" in seen,
            lambda seen: "go" not in seen,
            lambda seen: all(lamp in ("done", "reset") for lamp in seen),
            lambda seen: "done" not in seen,
        )
        for lamp in LAMPS:
            for seen in SEENS:
                expected = [number for number in range(7) if CHANGES[number][0] == lamp and said[number](seen)]
                self.assertEqual(due(fine_rule(), lamp, seen), expected[0] if expected else None, (lamp, seen))

    def test_it_is_a_rule(self):
        self.assertEqual(due(fine_rule(), "wait", ()), 0)
        self.assertEqual(Lit(STILL, ("row", 1), ((0, 0, 1),), fine_rule()).rule, fine_rule())


class DueTest(unittest.TestCase):
    def test_the_example(self):
        seens = (("done", "go"), ("go", "try"), ("step",), ())
        self.assertEqual([due(fine_rule(), "go", seen) for seen in seens], [2, None, 3, 2])

    def test_each_change_by_the_open_rule(self):
        for number, (lamp, _) in enumerate(CHANGES):
            for seen in SEENS:
                # From go there are two changes, of which the first one counts.
                self.assertEqual(due(OPEN, lamp, seen), 2 if lamp == "go" else number)
                self.assertIs(type(due(OPEN, lamp, seen)), int)

    def test_several_changes_from_one_lamp(self):
        def rule_of(third, fourth):
            return (NONE, NONE, third, fourth, NONE, NONE, NONE)

        no, yes = ((), ("try",)), (("try",), ())
        for third, fourth, with_try, without in (
            (NONE, NONE, 2, 2), (no, NONE, 3, 2), (NONE, no, 2, 2), (yes, NONE, 2, 3), (yes, no, 2, 3), (no, yes, 3, 2),
            (yes, yes, 2, None), (no, no, None, 2),
        ):
            self.assertEqual(due(rule_of(third, fourth), "go", ("try",)), with_try)
            self.assertEqual(due(rule_of(third, fourth), "go", ("done", "try")), with_try)
            self.assertEqual(due(rule_of(third, fourth), "go", ()), without)
            self.assertEqual(due(rule_of(third, fourth), "go", ("done", "wait")), without)

    def test_some_and_none(self):
        both = with_guard(0, (("go", "try"), ("done", "step")))
        for seen in SEENS:
            is_let = ("go" in seen or "try" in seen) and "done" not in seen and "step" not in seen
            self.assertEqual(due(both, "wait", seen), 0 if is_let else None)

    def test_a_lamp_in_both(self):
        self.assertIsNone(due(with_guard(0, (("go",), ("go",))), "wait", ("go",)))
        self.assertIsNone(due(with_guard(0, (("go",), ("go",))), "wait", ()))

    def test_nobody_is_seen(self):
        for number, (lamp, _) in enumerate(CHANGES):
            every = tuple(sorted(LAMPS))
            rule = OPEN[:number] + ((("wait",), ()),) + OPEN[number + 1:]
            if number == 2:
                self.assertEqual(due(rule, lamp, ()), 3)
            elif number != 3:
                self.assertIsNone(due(rule, lamp, ()))
            self.assertEqual(due((((), every),) * 7, lamp, ()), 2 if lamp == "go" else number)

    def test_many_rules(self):
        chance = random.Random(61)
        for _ in range(60):
            rule = random_rule(chance)
            for lamp in LAMPS:
                for seen in SEENS:
                    self.assertEqual(due(rule, lamp, seen), told_due(rule, lamp, seen))


class RefusalsTest(Refusals, unittest.TestCase):
    def rules(self):
        """Values that are no RULE, each wrong in one way at least."""
        fine = fine_rule()
        yield from NO_TUPLES
        yield from ((), fine[:6], fine + (NONE,), list(fine), (fine,), NONE, (NONE,) * 6, (NONE,) * 8, fine[0])
        for guard in NO_TUPLES + ((), ((),), ((), (), ()), [(), ()], ([], ()), ((), []), ("wait", ()), ((), "wait")):
            for number in range(7):
                yield with_guard(number, guard)
        for seen in NO_SEENS:
            for number in (0, 3, 6):
                yield with_guard(number, (seen, ()))
                yield with_guard(number, ((), seen))

    def test_rules(self):
        first = ((0, 0, 1),)
        for rule in self.rules():
            self.assert_refused(BadRule, rule, due, rule, "wait", ())
            self.assert_refused(BadRule, rule, Lit, STILL, ("row", 1), first, rule)
            self.assert_refused(BadRule, rule, lit_of, STILL, ("row", 1), first, rule, ())

    def test_every_guard_that_there_is(self):
        for some in SEENS:
            for none in SEENS[::7]:
                rule = with_guard(4, (some, none))
                self.assertIsNone(refusal(due, rule, "wait", ()))
                self.assertEqual(Lit(STILL, ("row", 1), ((0, 0, 1),), rule).rule, rule)

    def test_lamps(self):
        for lamp in NO_LAMPS:
            self.assert_refused(BadLamp, lamp, due, fine_rule(), lamp, ())

    def test_lamps_seen(self):
        for seen in NO_SEENS:
            for lamp in LAMPS:
                self.assert_refused(BadSeen, seen, due, fine_rule(), lamp, seen)

    def test_several_wrong_at_once(self):
        rule, lamp, seen = [()], ["wait"], ["try"]
        self.assert_refused(BadRule, rule, due, rule, lamp, seen)
        self.assert_refused(BadLamp, lamp, due, fine_rule(), lamp, seen)
        self.assert_refused(BadSeen, seen, due, fine_rule(), "wait", seen)

    def test_arguments_by_name(self):
        self.assertEqual(due(seen=("step",), lamp="go", rule=fine_rule()), 3)
        self.assertEqual(Program("marks 1\nstep 0\nmark 0"), STILL)


if __name__ == "__main__":
    unittest.main()

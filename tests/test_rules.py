"""Point 11: rules of lamps and their faults, and guarantee (f)."""

import random
import unittest

from onestillview.errors import BadMany, BadRule, BadWeaving, BadWord
from onestillview.lamps import Lit, fine_rule
from onestillview.rules import broken, fault, faults, lesser, needed, shows_fault
from tests.helpers import NO_NUMBERS, NO_TUPLES, STILL, Refusals
from tests.models import BAD_DEEDS, NONE, OPEN, random_rule
from tests.tellers import HASTY, RASH
from tests.weavings import FINE, drawn_weaving, judged, near_rule, searched

WORDS = ("once", "stuck", "views")
BAD_MANY = NO_NUMBERS + (0, -1, 4, 5, 6, 123456789)
BAD_WORDS = NO_TUPLES + ("", "Views", "view", "fault", "once ", ("once",), ["views"], "once stuck", "done", ())
BAD_RULES = NO_TUPLES + (
    (), FINE[:6], FINE + FINE[:1], list(FINE), (None,) + FINE[1:], ((),) + FINE[1:], (((),),) + FINE[1:],
    (((), (), ()),) + FINE[1:], ([(), ()],) + FINE[1:], ((["go"], ()),) + FINE[1:], (("go", ()),) + FINE[1:],
    ((("go",), "go"),) + FINE[1:], ((("Go",), ()),) + FINE[1:], ((("try", "go"), ()),) + FINE[1:],
    ((("go", "go"), ()),) + FINE[1:], FINE[:6] + (((), ("step", "done")),), FINE[:6] + (((None,), ()),), (NONE, 1) * 3,
    (STILL,) * 7, Lit(STILL, ("row", 1), ((0, 0, 1),), FINE),
)
CYCLE = ("look", "think", "step")
# Both try, and both go; then walker 1 looks for its step behind the think of walker 0.
WEAVING = tuple((word, walker) for walker in (0, 1, 0, 1) for word in CYCLE) + (("look", 0), ("think", 0), ("look", 1))
STUCK = FINE[:1] + (((), ("try", "wait")),) + FINE[2:]
# By this one nobody of two comes to step three times more than the other one.
TWICE = (
    ((), ("go",)), ((), ("try",)), NONE, (("step",), ("done",)), NONE, (("try",), ("done",)), ((), ("step",)),
)
# By this one three walkers fail in each way, but only by a long way round; two of them are stuck at worst.
THIRD = (
    NONE, ((), ("reset", "wait")), (("go",), ("step",)), (("step",), ("reset", "step")), (("step", "wait"), ()), NONE,
    ((), ("done",)),
)


def drawn_rules(chance, many):
    """So many rules, near the fine one and far from it, with few lamps and with many."""
    for number in range(many):
        kind = chance.randrange(5)
        if kind == 4:
            yield chance.choice((OPEN, RASH, HASTY, STUCK, FINE[:5] + (NONE,) + FINE[6:]))
        elif kind == 0:
            yield near_rule(chance, chance.randint(1, 4))
        elif kind == 1:
            rule = FINE
            for _ in range(chance.randint(1, 4)):
                rule = chance.choice(lesser(rule))
            yield rule
        elif kind == 2:
            yield random_rule(chance, chance.randint(0, 2))
        else:
            yield tuple(((), none) for _, none in random_rule(chance, 1))


class ExamplesTest(unittest.TestCase):
    def test_the_fine_rule(self):
        self.assertEqual([faults(FINE, many) for many in (1, 2, 3)], [(), (), ()])
        self.assertEqual(len(lesser(FINE)), 12)
        self.assertEqual(needed(FINE, 2), (
            (0, 1, "reset"), (2, 1, "step"), (5, 1, "go"), (5, 1, "step"), (5, 1, "try"), (5, 1, "wait"),
            (6, 1, "done"),
        ))
        self.assertEqual([len(needed(FINE, many)) for many in (1, 3)], [0, 8])

    def test_the_rash_rule(self):
        self.assertIn(HASTY, lesser(FINE))
        self.assertEqual((faults(HASTY, 1), faults(HASTY, 2), fault(HASTY, 2, "stuck")), ((), ("views",), None))
        self.assertEqual((broken(HASTY, 2, WEAVING), broken(HASTY, 2, WEAVING[:-1])), (("views",), ()))
        self.assertEqual(broken(FINE, 2, WEAVING), ())
        self.assertIs(shows_fault(HASTY, 2, "views", WEAVING), True)
        self.assertIs(shows_fault(HASTY, 2, "views", fault(HASTY, 2, "views")), True)
        self.assertIs(shows_fault(FINE, 2, "views", None), True)
        self.assertIs(shows_fault(HASTY, 2, "views", WEAVING[1:]), False)

    def test_the_still_rule(self):
        self.assertEqual([faults(STUCK, many) for many in (1, 2)], [(), ("stuck",)])
        self.assertEqual(broken(STUCK, 2, WEAVING[:6]), ("stuck",))


class FaultsTest(unittest.TestCase):
    def test_each_fault(self):
        # Nobody ever tries.
        shut = ((("go",), ()),) + FINE[1:]
        self.assertEqual([faults(shut, many) for many in (1, 2, 3)], [("stuck",)] * 3)
        self.assertEqual([fault(shut, many, "stuck") for many in (1, 2, 3)], [(), (), ()])
        # Whatever is seen: one goes on alone, and nobody minds the other one's think.
        self.assertEqual([faults(OPEN, many) for many in (1, 2, 3)], [(), ("once", "views"), ("once", "views")])
        # Who is done resets, whatever others do.
        self.assertEqual(faults(FINE[:5] + (NONE,) + FINE[6:], 2), ("once",))
        self.assertEqual(faults(RASH, 2), ("once", "views"))

    def test_one_walker_can_only_be_stuck(self):
        chance = random.Random(111)
        for rule in drawn_rules(chance, 60):
            self.assertIn(faults(rule, 1), ((), ("stuck",)))
            self.assertIsNone(fault(rule, 1, "views"))
            self.assertIsNone(fault(rule, 1, "once"))

    def test_by_a_search_of_one_and_two(self):
        chance = random.Random(112)
        met = set()
        for rule in drawn_rules(chance, 240):
            for many in (1, 2):
                self.assertEqual(faults(rule, many), searched(rule, many), (rule, many))
                met.add(faults(rule, many))
        self.assertGreater(len(met), 6)

    def test_by_a_search_of_three(self):
        chance = random.Random(113)
        for rule in [FINE, HASTY, STUCK, *drawn_rules(chance, 5)]:
            self.assertEqual(faults(rule, 3), searched(rule, 3), rule)

    def test_faults_that_are_hard_to_come_to(self):
        self.assertEqual((faults(TWICE, 2), searched(TWICE, 2)), (WORDS, WORDS))
        self.assertEqual((faults(THIRD, 3), searched(THIRD, 3)), (WORDS, WORDS))
        for rule, many in ((TWICE, 2), (THIRD, 3)):
            for word in WORDS:
                self.assertIn(word, judged(rule, many, fault(rule, many, word))[-1])

    def test_faults_of_three_that_two_do_not_have(self):
        more = [rule for rule in lesser(FINE) if faults(rule, 3) and not faults(rule, 2)]
        self.assertEqual(len(more), 1)
        self.assertEqual(faults(more[0], 3), searched(more[0], 3))

    def test_all_that_are_lesser_by_a_search(self):
        for rule in lesser(FINE):
            self.assertEqual([faults(rule, many) for many in (1, 2)], [searched(rule, many) for many in (1, 2)])

    def test_kinds_of_what_is_told(self):
        for value in (faults(FINE, 2), faults(OPEN, 2), fault(OPEN, 2, "once"), broken(OPEN, 2, ()), lesser(FINE),
                      lesser(FINE)[0], needed(FINE, 2), needed(FINE, 2)[0]):
            self.assertIs(type(value), tuple)


class FaultTest(unittest.TestCase):
    def test_it_leads_to_the_fault(self):
        chance = random.Random(114)
        led = 0
        for number, rule in enumerate(drawn_rules(chance, 120)):
            many = 1 + number % 3
            for word in WORDS:
                weaving = fault(rule, many, word)
                self.assertEqual(weaving is not None, word in faults(rule, many))
                self.assertIs(shows_fault(rule, many, word, weaving), True)
                self.assertIs(shows_fault(rule, many, word, None), weaving is None)
                if weaving is not None:
                    self.assertIs(type(weaving), tuple)
                    self.assertIn(word, judged(rule, many, weaving)[-1])
                    self.assertIn(word, broken(rule, many, weaving))
                    led += 1
        self.assertGreater(led, 100)

    def test_equal_calls(self):
        self.assertEqual(fault(OPEN, 3, "once"), fault(OPEN, 3, "once"))


class ShowsFaultTest(unittest.TestCase):
    def test_drawn_weavings(self):
        chance = random.Random(115)
        found = {word: 0 for word in WORDS}
        for number, rule in enumerate(drawn_rules(chance, 240)):
            many = 1 + number % 3
            ahead = fault(rule, many, chance.choice(WORDS)) or ()
            weaving = drawn_weaving(chance, rule, many, chance.choice((0, 6, 30, 60)), ahead)
            there = judged(rule, many, weaving)
            for at in range(len(weaving) + 1):
                for word in WORDS:
                    shows = shows_fault(rule, many, word, weaving[:at])
                    self.assertIs(shows, word in there[at], (rule, many, weaving[:at], word))
                    found[word] += shows
        self.assertGreater(min(found.values()), 15)

    def test_it_is_there_at_the_end(self):
        self.assertIs(shows_fault(HASTY, 2, "views", WEAVING + (("think", 1),)), False)
        self.assertIs(shows_fault(STUCK, 2, "stuck", WEAVING[:6] + (("look", 0),)), False)
        self.assertIs(shows_fault(STUCK, 2, "stuck", WEAVING[:6] + (("look", 0), ("think", 0))), False)
        self.assertIs(shows_fault(STUCK, 2, "stuck", WEAVING[:6] + (("look", 0), ("think", 0), ("step", 0))), True)
        # One steps twice while the other one doesn't; then that one steps, too.
        twice = tuple((word, 0) for _ in range(9) for word in CYCLE)
        self.assertIs(shows_fault(OPEN, 2, "once", twice[:25]), False)
        self.assertIs(shows_fault(OPEN, 2, "once", twice[:26]), True)
        self.assertIs(shows_fault(OPEN, 2, "once", twice), True)
        behind = twice + tuple((word, 1) for _ in range(3) for word in CYCLE)
        self.assertIs(shows_fault(OPEN, 2, "once", behind[:-2]), True)
        self.assertIs(shows_fault(OPEN, 2, "once", behind[:-1]), False)

    def test_whose_think_it_is(self):
        # By the open rule all do as they like: 0 looks for its step, 1 steps and comes to look for it once more.
        both = tuple((word, walker) for walker in (0, 1, 0, 1) for word in CYCLE)
        ahead = both + (("look", 0), ("look", 1))
        self.assertIs(shows_fault(OPEN, 2, "views", ahead), False)
        again = ahead + (("think", 1), ("step", 1)) + tuple((word, 1) for _ in range(5) for word in CYCLE)
        self.assertIs(shows_fault(OPEN, 2, "views", again), False)
        # Behind the look of 0 nobody but 1 itself has thought, but that is enough.
        self.assertIs(shows_fault(OPEN, 2, "views", again + (("look", 1),)), True)
        # A step deed ends the cycle.
        self.assertIs(shows_fault(OPEN, 2, "views", both + (("look", 0), ("think", 0), ("look", 1))), True)
        over = both + (("look", 0), ("think", 0), ("step", 0), ("look", 1))
        self.assertIs(shows_fault(OPEN, 2, "views", over), False)
        # A think of 2 behind the look of 0.
        three = tuple((word, walker) for walker in (0, 1, 2, 0, 1, 2) for word in CYCLE)
        mixed = three + (("look", 0), ("look", 2), ("think", 2), ("step", 2), ("look", 1))
        self.assertIs(shows_fault(OPEN, 3, "views", mixed), True)
        earlier = three + (("look", 2), ("think", 2), ("step", 2), ("look", 0), ("look", 1))
        self.assertIs(shows_fault(OPEN, 3, "views", earlier), False)

    def test_any_value(self):
        values = NO_TUPLES + (
            list(WEAVING), (None,), ((),), ("look", 0), {0: ("look", 0)}, tuple(list(deed) for deed in WEAVING),
            WEAVING[1:], WEAVING + (None,), (("look", 2),), (("look", True),), (("think", 0),), FINE, STILL,
        ) + tuple((deed,) for deed in BAD_DEEDS)
        for value in values:
            for word in WORDS:
                for rule in (FINE, HASTY, STUCK):
                    is_none = value is None and word not in faults(rule, 2)
                    self.assertIs(shows_fault(rule, 2, word, value), is_none, value)

    def test_none_where_there_is_one(self):
        self.assertIs(shows_fault(HASTY, 2, "views", None), False)
        self.assertIs(shows_fault(HASTY, 2, "once", None), True)
        self.assertIs(shows_fault(HASTY, 1, "views", None), True)
        self.assertIs(shows_fault(STUCK, 2, "stuck", ()), False)


class BrokenTest(unittest.TestCase):
    def assert_broken(self, rule, many, weaving):
        """What is told is what is judged: "stuck" behind the weaving itself, all else behind a beginning, too."""
        there = judged(rule, many, weaving)
        expected = {word for faults_there in there for word in faults_there if word != "stuck"}
        expected |= there[-1] & {"stuck"}
        self.assertEqual(broken(rule, many, weaving), tuple(sorted(expected)), (rule, many, weaving))
        return expected

    def test_drawn_weavings(self):
        chance = random.Random(116)
        met = []
        for number, rule in enumerate(drawn_rules(chance, 200)):
            many = 1 + number % 3
            ahead = fault(rule, many, chance.choice(WORDS)) or ()
            weaving = drawn_weaving(chance, rule, many, chance.randint(0, 60), ahead)
            met.extend(self.assert_broken(rule, many, weaving))
        for word in WORDS:
            self.assertGreater(met.count(word), 10, word)

    def test_the_fine_rule_is_never_broken(self):
        chance = random.Random(117)
        for number in range(30):
            many = 1 + number % 3
            self.assertEqual(self.assert_broken(FINE, many, drawn_weaving(chance, FINE, many, 150)), set())

    def test_early_ones_count(self):
        chance = random.Random(118)
        for many in (2, 3):
            for word in ("views", "once"):
                weaving = fault(OPEN, many, word)
                self.assertIn(word, broken(OPEN, many, weaving))
                later = 0
                for _ in range(20):
                    further = drawn_weaving(chance, OPEN, many, 60, weaving)
                    self.assertIn(word, self.assert_broken(OPEN, many, further))
                    later += not shows_fault(OPEN, many, word, further)
                self.assertGreater(later, 0)

    def test_stuck_at_the_end_alone(self):
        # Both try; then nothing is due. A look and a think change nothing, but they aren't idle.
        weaving = WEAVING[:6] + (("look", 0), ("think", 0), ("step", 0))
        found = [broken(STUCK, 2, weaving[:at]) for at in range(len(weaving) + 1)]
        self.assertEqual(found, [()] * 6 + [("stuck",), (), (), ("stuck",)])

    def test_several_at_once(self):
        shut = (NONE, NONE, NONE, NONE, NONE, NONE, (("go",), ()))
        alone = tuple((word, 0) for _ in range(5) for word in CYCLE)
        self.assertEqual(broken(shut, 1, alone), ("stuck",))
        mixed = tuple((word, walker) for walker in (0, 1, 0, 1) for word in CYCLE) + (
            ("look", 0), ("think", 0), ("look", 1), ("think", 1), ("step", 0), ("step", 1),
        ) + tuple((word, walker) for walker in (0, 1, 0, 1) for word in CYCLE)
        self.assertEqual(self.assert_broken(shut, 2, mixed), {"stuck", "views"})

    def test_no_deeds(self):
        self.assertEqual(broken(FINE, 3, ()), ())
        self.assertEqual(broken(((("go",), ()),) + FINE[1:], 3, ()), ("stuck",))


class LesserTest(unittest.TestCase):
    def test_of_the_fine_rule(self):
        found = lesser(FINE)
        self.assertEqual(list(found), sorted(found))
        self.assertEqual(len(set(found)), 12)
        for rule in found:
            differing = [number for number in range(7) if rule[number] != FINE[number]]
            self.assertEqual(len(differing), 1)
            one, other = rule[differing[0]], FINE[differing[0]]
            places = [place for place in (0, 1) if one[place] != other[place]]
            self.assertEqual(len(places), 1)
            lamps, more = one[places[0]], other[places[0]]
            self.assertEqual(len(lamps), len(more) - 1)
            self.assertTrue(set(lamps) < set(more))
            self.assertEqual(list(lamps), sorted(lamps))

    def test_without_lamps(self):
        self.assertEqual(lesser(OPEN), ())

    def test_of_few_lamps(self):
        rule = ((("done", "go"), ()),) + OPEN[1:6] + (((), ("wait",)),)
        self.assertEqual(lesser(rule), tuple(sorted((
            ((("go",), ()),) + rule[1:], ((("done",), ()),) + rule[1:], rule[:6] + (NONE,),
        ))))

    def test_of_drawn_rules(self):
        chance = random.Random(119)
        for _ in range(100):
            rule = random_rule(chance, 3)
            many = sum(len(lamps) for guard in rule for lamps in guard)
            found = lesser(rule)
            self.assertEqual((len(found), list(found)), (many, sorted(set(found))))
            for one in found:
                self.assertEqual(sum(len(lamps) for guard in one for lamps in guard), many - 1)


class NeededTest(unittest.TestCase):
    def test_of_drawn_rules(self):
        chance = random.Random(120)
        told = 0
        for number, rule in enumerate(drawn_rules(chance, 45)):
            many = 1 + number % 2
            expected = []
            for change, guard in enumerate(rule):
                for place in (0, 1):
                    for lamp in guard[place]:
                        lamps = tuple(other for other in guard[place] if other != lamp)
                        less = (lamps, guard[1]) if place == 0 else (guard[0], lamps)
                        less = rule[:change] + (less,) + rule[change + 1:]
                        if set(searched(less, many)) - set(searched(rule, many)):
                            expected.append((change, place, lamp))
            self.assertEqual(needed(rule, many), tuple(sorted(expected)))
            told += len(expected)
        self.assertGreater(told, 20)

    def test_of_three(self):
        found = needed(FINE, 3)
        self.assertEqual(len(found), 8)
        self.assertTrue(set(needed(FINE, 2)) < set(found))

    def test_a_rule_with_all_faults(self):
        worst = next(rule for rule in drawn_rules(random.Random(121), 999) if faults(rule, 2) == WORDS)
        self.assertEqual(needed(worst, 2), ())

    def test_a_lamp_of_some(self):
        # Nobody ever steps, since nobody resets ahead of that; without the lamp all step as they like.
        rule = OPEN[:2] + ((("reset",), ()),) + OPEN[3:]
        self.assertEqual([faults(rule, many) for many in (1, 2)], [(), ()])
        self.assertEqual([needed(rule, many) for many in (1, 2)], [(), ((2, 0, "reset"),)])
        self.assertEqual([entry for entry in needed(FINE, 3) if entry[1] == 0], [])


class RefusalsTest(Refusals, unittest.TestCase):
    def test_rules(self):
        for rule in BAD_RULES:
            self.assert_refused(BadRule, rule, faults, rule, 2)
            self.assert_refused(BadRule, rule, fault, rule, 2, "views")
            self.assert_refused(BadRule, rule, shows_fault, rule, 2, "views", None)
            self.assert_refused(BadRule, rule, broken, rule, 2, ())
            self.assert_refused(BadRule, rule, lesser, rule)
            self.assert_refused(BadRule, rule, needed, rule, 2)

    def test_how_many(self):
        for many in BAD_MANY:
            self.assert_refused(BadMany, many, faults, FINE, many)
            self.assert_refused(BadMany, many, fault, FINE, many, "views")
            self.assert_refused(BadMany, many, shows_fault, FINE, many, "views", None)
            self.assert_refused(BadMany, many, broken, FINE, many, ())
            self.assert_refused(BadMany, many, needed, FINE, many)

    def test_words(self):
        for word in BAD_WORDS:
            self.assert_refused(BadWord, word, fault, FINE, 2, word)
            self.assert_refused(BadWord, word, shows_fault, FINE, 2, word, None)

    def test_weavings(self):
        wrong = NO_TUPLES + (
            list(WEAVING), WEAVING[1:], WEAVING + (None,), WEAVING + (("look", 1),), (("look", 2),), (("look", -1),),
            (("look", True),), (("think", 0),), (("step", 0),), ("look", 0), (("look", 0), ("look", 0)), FINE,
        ) + tuple((("look", 0), deed) for deed in BAD_DEEDS)
        for weaving in wrong:
            self.assert_refused(BadWeaving, weaving, broken, FINE, 2, weaving)
        for many in (1, 2, 3):
            weaving = (("look", many - 1), ("think", many - 1))
            self.assertEqual(broken(FINE, many, weaving), ())
            if many > 1:
                self.assert_refused(BadWeaving, weaving, broken, FINE, many - 1, weaving)

    def test_several_wrong_at_once(self):
        rule, many, word, weaving = [0], [1], [2], [3]
        calls = ((faults, ()), (fault, (word,)), (shows_fault, (word, None)), (broken, (weaving,)), (needed, ()))
        for call, behind in calls:
            self.assert_refused(BadRule, rule, call, rule, many, *behind)
            self.assert_refused(BadMany, many, call, FINE, many, *behind)
        self.assert_refused(BadWord, word, fault, FINE, 3, word)
        self.assert_refused(BadWord, word, shows_fault, FINE, 3, word, weaving)
        self.assert_refused(BadWeaving, weaving, broken, FINE, 3, weaving)

    def test_equal_rules_are_told_alike(self):
        rule = tuple((tuple(list(some)), tuple(list(none))) for some, none in fine_rule())
        self.assertEqual((faults(rule, 2), needed(rule, 2)), ((), needed(FINE, 2)))


if __name__ == "__main__":
    unittest.main()

"""Lamps: what walkers show one another, so that they act as if in beats."""

from onestillview.checks import is_ascending, is_integer, is_tuple_of
from onestillview.deeds import check_idle, check_looked, check_thought, copy_deeds
from onestillview.deeds import do_deed, do_log, held_by, note_deed, replaced, take_mark, take_step
from onestillview.errors import BadLamp, BadMany, BadRule, BadSeen
from onestillview.floors import view_of
from onestillview.texts import check_start

LAMPS = ("wait", "try", "go", "step", "done", "reset")
CHANGES = (
    ("wait", "try"),
    ("try", "go"),
    ("go", "step"),
    ("go", "wait"),
    ("step", "done"),
    ("done", "reset"),
    ("reset", "wait"),
)
# The number of the change with which alone a walker does what the program tells.
STEPPING = 2
FINE_RULE = (
    ((), ("reset", "step")),
    ((), ("wait",)),
    ((), ("step", "try")),
    (("step",), ()),
    ((), ("go",)),
    ((), ("go", "step", "try", "wait")),
    ((), ("done",)),
)
# What those can show who are not done, beside whom others may be done.
UNDONE = (
    ("wait",),
    ("try", "wait"),
    ("try",),
    ("go", "try"),
    ("go",),
    ("go", "step"),
    ("go", "step", "wait"),
    ("step",),
    ("step", "wait"),
)
# What all can show behind the last step of an era.
ENDED = (("done",), ("done", "reset"), ("reset",), ("reset", "wait"))


def fine_rule():
    """The fine RULE."""
    return FINE_RULE


def are_lamps(value):
    """Whether it is an ascending tuple of LAMPS."""
    if not isinstance(value, tuple) or not all([lamp in LAMPS for lamp in value]):
        return False
    return is_ascending(value)


def is_guard(value):
    """Whether it is a GUARD."""
    return is_tuple_of(value, 2) and are_lamps(value[0]) and are_lamps(value[1])


def check_rule(value):
    """Refuses what is no RULE."""
    if not is_tuple_of(value, len(CHANGES)) or not all([is_guard(guard) for guard in value]):
        raise BadRule(value)


def holds_for(guard, seen):
    """Whether this GUARD holds for the lamps seen."""
    some, none = guard
    if some != () and not any([lamp in some for lamp in seen]):
        return False
    return not any([lamp in none for lamp in seen])


def change_due(rule, lamp, seen):
    """The number of the first change from this lamp whose guard holds, all of this being known to be right."""
    for number, change in enumerate(CHANGES):
        if change[0] == lamp and holds_for(rule[number], seen):
            return number
    return None


def due(rule, lamp, seen):
    """The number of the first change from this lamp whose GUARD holds for the lamps seen, None without any."""
    check_rule(rule)
    if lamp not in LAMPS:
        raise BadLamp(lamp)
    if not are_lamps(seen):
        raise BadSeen(seen)
    return change_due(rule, lamp, seen)


def change_seen(lit, walker):
    """The number of the change that is due for this walker by the lamps of all others, None without any."""
    seen = [lamp for number, lamp in enumerate(lit.lamps) if number != walker]
    return change_due(lit.rule, lit.lamps[walker], seen)


class Lit:
    """Walkers as in a Hall, with lamps that change by this rule."""

    def __init__(self, program, floor, standing, rule):
        check_start(program, floor, standing)
        check_rule(rule)
        self.program = program
        self.floor = floor
        self.rule = rule
        self.first = standing
        self.standing = standing
        self.stages = ("idle",) * len(standing)
        self.lamps = ("wait",) * len(standing)
        self.log = ()
        # For each walker (VIEW, number of the change or None), or the step that it holds, None if it is idle.
        self.holding = (None,) * len(standing)
        # For each walker how often it has thought by the change to step.
        self.thoughts = (0,) * len(standing)
        # (number in the log, walker, VIEW) of each look by which the change to step was due.
        self.step_looks = ()

    def __eq__(self, other):
        if not isinstance(other, Lit):
            return False
        if self.program != other.program or self.floor != other.floor:
            return False
        return self.first == other.first and self.rule == other.rule and self.log == other.log

    def __len__(self):
        return len(self.log)

    def look(self, walker):
        """The walker takes its VIEW, and the number of the change that is due, and holds both."""
        check_idle(self, walker)
        seen = view_of(self.floor, self.standing, walker)
        number = change_seen(self, walker)
        if number == STEPPING:
            self.step_looks = self.step_looks + ((len(self.log), walker, seen),)
        note_deed(self, "look", walker, (seen, number))

    def think(self, walker):
        """The walker's lamp makes the change that was due; if it is that to step, the walker thinks."""
        check_looked(self, walker)
        seen, number = self.holding[walker]
        step = 0
        if number is not None:
            self.lamps = replaced(self.lamps, walker, CHANGES[number][1])
        if number == STEPPING:
            step = take_mark(self, walker, seen)
            self.thoughts = replaced(self.thoughts, walker, self.thoughts[walker] + 1)
        note_deed(self, "think", walker, step)

    def step(self, walker):
        """The walker goes by the step that it holds, and is idle."""
        check_thought(self, walker)
        take_step(self, walker)
        note_deed(self, "step", walker, None)

    def go(self, walker):
        """The walker looks, thinks and steps."""
        self.look(walker)
        self.think(walker)
        self.step(walker)

    def do(self, deed):
        """Does this deed."""
        do_deed(self, deed)

    def held(self, walker):
        """(VIEW, number or None) of a walker that looked, the step of one that thought, None if it is idle."""
        return held_by(self, walker)

    def copy(self):
        """An equal Lit by itself."""
        other = Lit(self.program, self.floor, self.first, self.rule)
        copy_deeds(self, other)
        other.lamps = self.lamps
        other.thoughts = self.thoughts
        other.step_looks = self.step_looks
        return other


def lit_of(program, floor, standing, rule, log):
    """The Lit on which these deeds were done."""
    lit = Lit(program, floor, standing, rule)
    do_log(lit, log)
    return lit


def eras_of(lit):
    """The least number of thoughts by the change to step that one of the walkers has thought."""
    return min(lit.thoughts)


def patterns(many):
    """All patterns that so many walkers with the fine rule can come to show, ascending."""
    if not is_integer(many) or many < 1:
        raise BadMany(many)
    # So many walkers show so many lamps at most, and there is no other bound for them.
    shown = [*UNDONE, *[("done", *pattern) for pattern in UNDONE], *ENDED]
    return tuple(sorted([pattern for pattern in shown if len(pattern) <= many]))


def is_pattern(many, value):
    """Whether any value is one of these patterns."""
    return value in patterns(many)

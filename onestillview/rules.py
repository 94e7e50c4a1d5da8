"""Rules of lamps: how a rule fails, whatever program walkers run and wherever they stand."""

from onestillview.checks import is_within
from onestillview.deeds import replaced
from onestillview.errors import BadLog, BadMany, BadWeaving, BadWord
from onestillview.lamps import CHANGES, STEPPING, Lit, change_due, change_seen, check_rule, lit_of
from onestillview.texts import Program

FAULTS = ("once", "stuck", "views")
MOST_WEAVERS = 3
# What stands for the number of a change in the entry of a walker who holds none.
NO_CHANGE = -1


def check_rule_and_many(rule, many):
    """Refuses what is no RULE, then what is no number of walkers for a WEAVING."""
    check_rule(rule)
    if not is_within(many, 1, MOST_WEAVERS):
        raise BadMany(many)


def check_word(value):
    """Refuses what is no word for a fault."""
    if value not in FAULTS:
        raise BadWord(value)


def new_lit(rule, many):
    """A Lit with this rule and so many walkers: one for all, since lamps know nothing of places and marks."""
    return Lit(Program("marks 1\nstep 0\nmark 0"), ("row", 1), ((0, 0, 1),) * many, rule)


# A search goes over states of lamps. A state has for each walker (lamp, number, extra): the lamp; the number of
# the change that it holds since its look, NO_CHANGE if none; and what the search's word asks for:
# - "views": 1 if it is in a stepping cycle behind whose look somebody has thought in a stepping cycle, 0 if not;
#   with 1 and NO_CHANGE it has thought, and its step deed is still to be done;
# - "once": how often it has thought in a stepping cycle, less how often whoever has done so least often;
# - "stuck": nothing, so always 0.
# Looks by which nothing is due change nothing that is asked for, nor do step deeds that end no stepping cycle:
# a state leaves out the ones, and lets the others follow their thinks.


def is_stepping(word, entry):
    """Whether by a state for this word the walker with this entry has thought in a stepping cycle, and not stepped."""
    return word == "views" and entry[1] == NO_CHANGE and entry[2] == 1


def looked_on(rule, state, walker):
    """The state behind the look of this idle walker, None if nothing is due."""
    lamp, _, extra = state[walker]
    number = change_due(rule, lamp, [entry[0] for at, entry in enumerate(state) if at != walker])
    return None if number is None else replaced(state, walker, (lamp, number, extra))


def thought_on(word, state, walker):
    """The state behind the think of this walker, who holds a change."""
    _, number, extra = state[walker]
    behind = replaced(state, walker, (CHANGES[number][1], NO_CHANGE, extra))
    if number != STEPPING or word == "stuck":
        return behind
    behind = replaced(behind, walker, (CHANGES[number][1], NO_CHANGE, extra + 1 if word == "once" else 1))
    if word == "once":
        least = min([entry[2] for entry in behind])
        return tuple([(lamp, held, count - least) for lamp, held, count in behind])
    return tuple([(lamp, held, 1 if held == STEPPING else flag) for lamp, held, flag in behind])


def moved_on(rule, word, state, walker):
    """The state behind what this walker does next, None if nothing is due."""
    lamp, number, _ = state[walker]
    if is_stepping(word, state[walker]):
        return replaced(state, walker, (lamp, NO_CHANGE, 0))
    return looked_on(rule, state, walker) if number == NO_CHANGE else thought_on(word, state, walker)


def deeds_next(word, state, walker):
    """The deeds by which this walker does so."""
    number = state[walker][1]
    if is_stepping(word, state[walker]):
        return [("step", walker)]
    if number == NO_CHANGE:
        return [("look", walker)]
    if word == "views" and number == STEPPING:
        return [("think", walker)]
    return [("think", walker), ("step", walker)]


def has_fault(rule, word, state):
    """Whether there is this fault in a state for this word."""
    if word == "once":
        return max([entry[2] for entry in state]) > 1
    if word == "stuck":
        if any([entry[1] != NO_CHANGE for entry in state]):
            return False
        return all([looked_on(rule, state, walker) is None for walker in range(len(state))])
    # Who looked behind a think for a step still has 0; who looked ahead of it, and is still in that cycle, has 1.
    is_late = any([entry[1] == STEPPING and entry[2] == 0 for entry in state])
    return is_late and any([entry[2] == 1 for entry in state])


def path_to_fault(rule, many, word):
    """States from the beginning to one with this fault, each with its entries sorted; None if there is none."""
    begin = (("wait", NO_CHANGE, 0),) * many
    came = {begin: None}
    fresh = [begin]
    while fresh:
        later = []
        for state in fresh:
            if has_fault(rule, word, state):
                return path_back(came, state)
            for walker in range(many):
                behind = moved_on(rule, word, state, walker)
                # Walkers are all alike, so states that differ by their numbers alone are one.
                behind = None if behind is None else tuple(sorted(behind))
                if behind is not None and behind not in came:
                    came[behind] = state
                    later.append(behind)
        fresh = later
    return None


def path_back(came, state):
    """The states that led to this one, it too, each told by came as the one behind which the next one came."""
    found = []
    while state is not None:
        found.append(state)
        state = came[state]
    return found[::-1]


def weaving_along(rule, word, path):
    """The deeds that lead along these states of sorted entries."""
    state = path[0]
    found = []
    for sought in path[1:]:
        ways = [(moved_on(rule, word, state, walker), walker) for walker in range(len(state))]
        fitting = [way for way in ways if way[0] is not None and tuple(sorted(way[0])) == sought]
        behind, walker = fitting[0]
        found = found + deeds_next(word, state, walker)
        state = behind
    return tuple(found)


def faults(rule, many):
    """The FAULTS that there are behind some WEAVING."""
    check_rule_and_many(rule, many)
    return tuple([word for word in FAULTS if path_to_fault(rule, many, word) is not None])


def fault(rule, many, word):
    """A WEAVING behind which there is this fault, None if there is none."""
    check_rule_and_many(rule, many)
    check_word(word)
    path = path_to_fault(rule, many, word)
    return None if path is None else weaving_along(rule, word, path)


class Weavers:
    """Walkers who do a WEAVING, deed by deed, and how they fail."""

    def __init__(self, rule, many):
        self.lit = new_lit(rule, many)
        # For each walker None outside of stepping cycles, otherwise whether one has thought so behind its look.
        self.cycles = (None,) * many
        # Whether there is the fault "views" behind the last deed.
        self.is_mixed = False

    def do(self, deed):
        """Does this deed, which is known to be one that can be done."""
        word, walker = deed
        self.lit.do(deed)
        self.is_mixed = False
        if word == "look" and self.lit.held(walker)[1] == STEPPING:
            self.is_mixed = any([cycle is True for cycle in self.cycles])
            self.cycles = replaced(self.cycles, walker, False)
        if word == "think" and self.cycles[walker] is not None:
            self.cycles = tuple([None if cycle is None else True for cycle in self.cycles])
        if word == "step":
            self.cycles = replaced(self.cycles, walker, None)

    def shown(self):
        """The FAULTS that there are now, but for "stuck"."""
        thoughts = self.lit.thoughts
        is_more = max(thoughts) - min(thoughts) > 1
        return [word for word, is_there in (("once", is_more), ("views", self.is_mixed)) if is_there]

    def are_stuck(self):
        """Whether all are idle, and no look would have a change due."""
        if any([stage != "idle" for stage in self.lit.stages]):
            return False
        return all([change_seen(self.lit, walker) is None for walker in range(len(self.cycles))])


def is_weaving(rule, many, value):
    """Whether any value is a WEAVING of so many walkers with this rule."""
    lit = new_lit(rule, many)
    try:
        lit_of(lit.program, lit.floor, lit.first, rule, value)
    except BadLog:
        return False
    return True


def shows_fault(rule, many, word, value):
    """Whether any value is such a WEAVING, or None if there is none."""
    check_rule_and_many(rule, many)
    check_word(word)
    if value is None:
        return path_to_fault(rule, many, word) is None
    if not is_weaving(rule, many, value):
        return False
    weavers = Weavers(rule, many)
    for deed in value:
        weavers.do(deed)
    return weavers.are_stuck() if word == "stuck" else word in weavers.shown()


def broken(rule, many, weaving):
    """The FAULTS that there are behind the weaving or, "stuck" aside, behind a beginning of it."""
    check_rule_and_many(rule, many)
    if not is_weaving(rule, many, weaving):
        raise BadWeaving(weaving)
    weavers = Weavers(rule, many)
    found = []
    for deed in weaving:
        weavers.do(deed)
        found.extend(weavers.shown())
    if weavers.are_stuck():
        found.append("stuck")
    return tuple(sorted(set(found)))


def lamps_in(rule):
    """(change, place, lamp) for each lamp in a guard's tuple of this RULE."""
    return [(change, place, lamp) for change in range(len(rule)) for place in (0, 1) for lamp in rule[change][place]]


def without_lamp(rule, change, place, lamp):
    """The RULE without this lamp there."""
    guard = rule[change]
    lamps = tuple([other for other in guard[place] if other != lamp])
    return replaced(rule, change, replaced(guard, place, lamps))


def lesser(rule):
    """All RULES that have one lamp less."""
    check_rule(rule)
    return tuple(sorted([without_lamp(rule, change, place, lamp) for change, place, lamp in lamps_in(rule)]))


def needed(rule, many):
    """(change, place, lamp) for each lamp without which the rule has a fault that it hasn't."""
    check_rule_and_many(rule, many)
    absent = [word for word in FAULTS if path_to_fault(rule, many, word) is None]
    found = []
    for change, place, lamp in lamps_in(rule):
        less = without_lamp(rule, change, place, lamp)
        if any([path_to_fault(less, many, word) is not None for word in absent]):
            found.append((change, place, lamp))
    return tuple(sorted(found))

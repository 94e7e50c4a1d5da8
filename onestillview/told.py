"""Told runs: what walkers with the fine rule of lamps do, told as a run in beats."""

from onestillview.beats import run
from onestillview.checks import MOST_WALKERS, are_lots, check_walker, is_within
from onestillview.errors import BadLots, BadMany, BadNumber, NotFine
from onestillview.lamps import fine_rule, lit_of


def check_fine(lit):
    """Refuses a Lit by another rule than the fine one."""
    if lit.rule != fine_rule():
        raise NotFine(lit.rule)


def cycle_from(log, number):
    """(look, think, step) of the cycle that begins with the deed of this number, None for what isn't done."""
    walker = log[number][1]
    found = []
    at = number
    while at < len(log) and len(found) < 3:
        if log[at][1] == walker:
            found.append(at)
        at += 1
    return tuple(found + [None] * (3 - len(found)))


def is_over(log, looks, number):
    """Whether a round of these step looks is over ahead of the deed of this number: somebody of it has stepped."""
    steps = [cycle_from(log, look[0])[2] for look in looks]
    return any([step is not None and step < number for step in steps])


def rounds_behind(lit, many):
    """The step looks among the first so many deeds, parted into rounds."""
    found = []
    for look in lit.step_looks:
        if look[0] < many:
            if not found or is_over(lit.log, found[-1], look[0]):
                found.append([])
            found[-1].append(look)
    return found


def lots_behind(lit, many):
    """The told LOTS as they stood behind so many deeds."""
    return tuple([tuple(sorted([look[1] for look in looks])) for looks in rounds_behind(lit, many)])


def told_lots(lit):
    """The told LOTS: round by round, the walkers who looked for a step."""
    check_fine(lit)
    return lots_behind(lit, len(lit))


def told_run(lit):
    """The STANDINGS of the run by the told LOTS."""
    return run(lit.program, lit.floor, lit.first, told_lots(lit))


def told_at(lit, many):
    """The told LOTS as they stood behind so many deeds."""
    check_fine(lit)
    if not is_within(many, 0, len(lit)):
        raise BadMany(many)
    return lots_behind(lit, many)


def views_of(lit, number):
    """(walker, VIEW) for all of the lot of this round: what was seen by the step look."""
    check_fine(lit)
    rounds = rounds_behind(lit, len(lit))
    if not is_within(number, 0, len(rounds) - 1):
        raise BadNumber(number)
    return tuple(sorted([(walker, seen) for _, walker, seen in rounds[number]]))


def pending(lit):
    """(walker, "look") or (walker, "step") for all of the last round whose step deed isn't done."""
    check_fine(lit)
    found = []
    for looks in rounds_behind(lit, len(lit))[-1:]:
        for number, walker, _ in looks:
            _, think, step = cycle_from(lit.log, number)
            if step is None:
                found.append((walker, "look" if think is None else "step"))
    return tuple(sorted(found))


def times(lit, walker):
    """(look, think, step) for each step look of the walker: the deeds' numbers, None for what isn't done."""
    check_fine(lit)
    check_walker(lit.standing, walker)
    return tuple([cycle_from(lit.log, number) for number, looker, _ in lit.step_looks if looker == walker])


def settled(lit):
    """A Lit by itself behind the same deeds and, for each pending walker, what is left of its cycle."""
    found = lit.copy()
    for walker, word in pending(lit):
        if word == "look":
            found.think(walker)
        found.step(walker)
    return found


def check_any_lots(value):
    """Refuses what is no LOTS of as many walkers as there can be."""
    if not are_lots(MOST_WALKERS, value):
        raise BadLots(value)


def is_grown(one, other):
    """Whether the other LOTS have all of the one LOTS, whose last lot alone may have grown."""
    check_any_lots(one)
    check_any_lots(other)
    if one == ():
        return True
    at = len(one) - 1
    if len(other) <= at or other[:at] != one[:at]:
        return False
    return all([walker in other[at] for walker in one[at]])


def is_told(program, floor, standing, log, value):
    """Whether any value is the told LOTS of the Lit with the fine rule behind this log."""
    lit = lit_of(program, floor, standing, fine_rule(), log)
    return are_lots(len(standing), value) and value == told_lots(lit)

"""Brought about: deeds of walkers with the fine rule of lamps that are told as given LOTS in eras."""

from onestillview.beats import check_lots, cut_in_eras
from onestillview.checks import check_many, is_integer
from onestillview.deeds import WORDS
from onestillview.errors import BadLog, BadMany, BadSizes
from onestillview.lamps import fine_rule, lit_of
from onestillview.texts import check_start
from onestillview.told import pending, told_lots


def whole_cycles(walkers):
    """The deeds of these walkers, who go one behind another."""
    return [(word, walker) for walker in walkers for word in WORDS]


def rounds_ahead(many, lots):
    """For each of these LOTS the lot, and the walkers left in the era ahead of it."""
    found = []
    for era in cut_in_eras(many, lots):
        remaining = list(range(many))
        for lot in era:
            found.append((lot, remaining))
            remaining = [walker for walker in remaining if walker not in lot]
    return found


def deeds_for_lot(lot, remaining):
    """Deeds by which all who are left try, then go, and this lot then looks for a step at one still standing."""
    return whole_cycles(remaining) + whole_cycles(remaining) + [(word, walker) for word in WORDS for walker in lot]


def deeds_behind_lot(many, lot, remaining):
    """Deeds that lead on behind such deeds, if another lot follows."""
    others = [walker for walker in remaining if walker not in lot]
    # While all of the lot still show that they step, the others wait again; only then the lot can be done.
    found = whole_cycles(others) + whole_cycles(lot)
    if not others:
        everybody = list(range(many))
        found = found + whole_cycles(everybody) + whole_cycles(everybody)
    return found


def whole_log(many, lots):
    """A LOG by which these LOTS in eras are told, behind which all are idle."""
    found = []
    behind = []
    for lot, remaining in rounds_ahead(many, lots):
        found = found + behind + deeds_for_lot(lot, remaining)
        behind = deeds_behind_lot(many, lot, remaining)
    return tuple(found)


def without_last_steps(log, lot):
    """This log without the last step deed of each walker who is not of this lot."""
    found = []
    ended = list(lot)
    for word, walker in reversed(log):
        if word == "step" and walker not in ended:
            ended.append(walker)
        else:
            found.append((word, walker))
    return tuple(found[::-1])


def check_brought(program, floor, standing, lots):
    """Refuses what cannot be brought about."""
    check_start(program, floor, standing)
    check_lots("eras", len(standing), lots)


def brought(program, floor, standing, lots):
    """A log with as few deeds as can be, behind which these LOTS are told, and nobody is pending."""
    check_brought(program, floor, standing, lots)
    log = whole_log(len(standing), lots)
    # Their steps lead nowhere, so what is told doesn't need them.
    return without_last_steps(log, lots[-1]) if lots else log


def shows_brought(program, floor, standing, lots, value):
    """Whether any value is a log behind which these LOTS are told, and nobody is pending."""
    check_brought(program, floor, standing, lots)
    try:
        lit = lit_of(program, floor, standing, fine_rule(), value)
    except BadLog:
        return False
    return told_lots(lit) == lots and pending(lit) == ()


def least_deeds(many, lots):
    """How many deeds are needed to bring these LOTS about."""
    check_many(many)
    check_lots("eras", many, lots)
    return deeds_for_sizes(many, [len(lot) for lot in lots])


def numbers_left(many, sizes):
    """How many are left in the era ahead of each of these sizes, None if one is too great or no size."""
    found = []
    remaining = many
    for size in sizes:
        if not is_integer(size) or not 1 <= size <= remaining:
            return None
        found.append(remaining)
        remaining = many if size == remaining else remaining - size
    return found


def deeds_for_sizes(many, sizes):
    """How many deeds lots of these sizes need, which are known to be right."""
    if len(sizes) == 0:
        return 0
    ahead = numbers_left(many, sizes)
    changes = sum(sizes) + 2 * sum(ahead) + sum(ahead[:-1])
    ended = [size for size, remaining in zip(sizes[:-1], ahead) if size == remaining]
    changes = changes + 2 * many * len(ended)
    # Whoever is not of the last lot needn't do the step deed of its last change.
    return 3 * changes - (many - sizes[-1])


def deeds_of(many, sizes):
    """How many deeds are needed to bring about lots of these sizes, of any number of walkers."""
    if not is_integer(many) or many < 1:
        raise BadMany(many)
    if not isinstance(sizes, tuple) or numbers_left(many, sizes) is None:
        raise BadSizes(sizes)
    return deeds_for_sizes(many, sizes)

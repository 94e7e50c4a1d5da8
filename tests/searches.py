"""What worlds come to, searched anew: through LOTS, or deed by deed, as point 12 says it."""

from itertools import combinations

from onestillview.lamps import fine_rule
from onestillview.texts import thought
from tests.helpers import told_beat, told_view, walked
from tests.models import CHANGES, told_due

FINE = fine_rule()


def lots_of(kind, many, missing):
    """Each LOT that there can be while these walkers are missing in the era."""
    everybody = range(many)
    if kind == "full":
        return [tuple(everybody)]
    if kind == "one":
        return [(walker,) for walker in everybody]
    among = everybody if kind == "some" else sorted(missing)
    return [lot for size in range(1, len(among) + 1) for lot in combinations(among, size)]


def behind_lot(program, floor, state, lot):
    """The (standing, missing walkers of the era) behind this lot."""
    standing, missing = state
    everybody = frozenset(range(len(standing)))
    return told_beat(program, floor, standing, lot), (missing - set(lot)) or everybody


def through_lots(kind, program, floor, standing):
    """All STANDINGS that are come to by LOTS of this kind."""
    many = len(standing)
    begin = (standing, frozenset(range(many)))
    seen, fresh = {begin}, [begin]
    while fresh:
        later = []
        for state in fresh:
            for lot in lots_of(kind, many, state[1]):
                behind = behind_lot(program, floor, state, lot)
                behind = behind if kind == "eras" else (behind[0], begin[1])
                if behind not in seen:
                    seen.add(behind)
                    later.append(behind)
        fresh = later
    return {state[0] for state in seen}


def put(entries, walker, entry):
    """These entries with this one for the walker."""
    return entries[:walker] + (entry,) + entries[walker + 1:]


def deed_in_own_time(program, floor, state, walker):
    """The (standing, what all hold) of a Hall behind this walker's next deed."""
    standing, hands = state
    place, mark, sense = standing[walker]
    held = hands[walker]
    if held is None:
        return standing, put(hands, walker, told_view(floor, standing, walker))
    if isinstance(held, tuple):
        step, mark = thought(program, floor, held)
        return put(standing, walker, (place, mark, sense)), put(hands, walker, step)
    reached = walked(floor, place, sense * held)
    return put(standing, walker, (place if reached is None else reached, mark, sense)), put(hands, walker, None)


def deed_with_lamps(program, floor, state, walker):
    """The (standing, what all hold, lamps) of a Lit behind this walker's next deed.

    A look that isn't for a step holds no view, for nobody will ask for it.
    """
    standing, hands, lamps = state
    held = hands[walker]
    if held is None:
        number = told_due(FINE, lamps[walker], lamps[:walker] + lamps[walker + 1:])
        view = told_view(floor, standing, walker) if number == 2 else None
        return standing, put(hands, walker, ("looked", number, view)), lamps
    if held[0] == "looked":
        _, number, view = held
        lamps = lamps if number is None else put(lamps, walker, CHANGES[number][1])
        step = 0
        if number == 2:
            step, mark = thought(program, floor, view)
            standing = put(standing, walker, (standing[walker][0], mark, standing[walker][2]))
        return standing, put(hands, walker, ("thought", step)), lamps
    place, mark, sense = standing[walker]
    reached = walked(floor, place, sense * held[1])
    standing = put(standing, walker, (place if reached is None else reached, mark, sense))
    return standing, put(hands, walker, None), lamps


def through_deeds(kind, program, floor, standing):
    """All STANDINGS at which all are idle, deed by deed of a Hall ("own") or of a Lit ("lit")."""
    many = len(standing)
    idle = (None,) * many
    begin = (standing, idle) if kind == "own" else (standing, idle, ("wait",) * many)
    deed = deed_in_own_time if kind == "own" else deed_with_lamps
    seen, fresh = {begin}, [begin]
    while fresh:
        later = []
        for state in fresh:
            for walker in range(many):
                behind = deed(program, floor, state, walker)
                if behind not in seen:
                    seen.add(behind)
                    later.append(behind)
        fresh = later
    return {state[0] for state in seen if state[1] == idle}


def searched_standings(kind, program, floor, standing):
    """All STANDINGS that are come to in this world."""
    search = through_deeds if kind in ("own", "lit") else through_lots
    return search(kind, program, floor, standing)


def searched_surely(kind, program, floor, standing, holds):
    """The most lots that a run can have ahead of the first standing of which it holds, None if it needn't come."""
    kind = "eras" if kind == "lit" else kind
    many = len(standing)
    fresh = frozenset() if holds(standing) else frozenset([(standing, frozenset(range(many)))])
    lots, met = 0, set()
    while fresh:
        # Where all can be that are without it so far, they can be once more: so on and on.
        if fresh in met:
            return None
        met.add(fresh)
        lots += 1
        behind = [behind_lot(program, floor, state, lot) for state in fresh for lot in lots_of(kind, many, state[1])]
        fresh = frozenset(state for state in behind if not holds(state[0]))
    return lots

"""What the tests of worlds have in common."""

import random

from onestillview.halls import Hall
from onestillview.lamps import Lit, fine_rule
from onestillview.texts import Program
from onestillview.worlds import come_to
from tests.helpers import NO_NUMBERS, NO_TUPLES, random_start, refusal
from tests.searches import behind_lot, lots_of

KINDS = ("full", "one", "some", "eras", "own", "lit")
SURE_KINDS = ("full", "eras", "lit")
NEAR = Program("marks 1\nstep pick ahead turn behind 1\nmark 0")
SWAP = Program("marks 2\nstep plus ahead turn behind\nmark same ahead 1")
FAR, ROW = ((0, 0, 1), (2, 0, 1)), ("row", 3)
PAIR, TWO = ((0, 0, 1), (1, 0, -1)), ("row", 2)
APART, TOGETHER = ("apart",), ("together",)
BAD_KINDS = NO_TUPLES + ("Full", "era", "own ", "", "lits", ("full",), ["own"], "full one", ())
BAD_MOST = NO_NUMBERS + (0, -1, 20001, 123456789, -123456789)


def some_starts(seed, many, walkers=3, widest=300):
    """So many (program, floor, standing, kind) of worlds that are not too wide."""
    chance = random.Random(seed)
    while many:
        program, floor, first = random_start(chance, walkers)
        kind = chance.choice(KINDS)
        if kind == "own" and len(first) > 2 or kind == "lit" and len(first) > 3:
            continue
        limit = widest // 10 if kind == "lit" and len(first) == 3 else widest
        if refusal(come_to, kind, program, floor, first, limit) is None:
            many -= 1
            yield program, floor, first, kind


def led_to(kind, program, floor, first, how):
    """The STANDING to which any value leads in this world, as the tests lead it; None if it leads to none."""
    if not isinstance(how, tuple):
        return None
    if kind in ("own", "lit"):
        return led_by_deeds(kind, program, floor, first, how)
    state = (first, frozenset(range(len(first))))
    for lot in how:
        if not isinstance(lot, tuple) or any(type(walker) is not int for walker in lot):
            return None
        if lot not in lots_of(kind, len(first), state[1]):
            return None
        state = behind_lot(program, floor, state, lot)
    return state[0]


def led_by_deeds(kind, program, floor, first, log):
    """The same in the worlds in which deeds are done."""
    walkers = Hall(program, floor, first) if kind == "own" else Lit(program, floor, first, fine_rule())
    for deed in log:
        if refusal(walkers.do, deed) is not None:
            return None
    return walkers.standing if set(walkers.stages) == {"idle"} else None

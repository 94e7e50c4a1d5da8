"""What several tests need: refusals, values of other kinds, and things told anew, step by step."""

from onestillview.errors import WalkError
from onestillview.texts import Program, thought

RINGS = tuple(("ring", size) for size in range(3, 9))
ROWS = tuple(("row", size) for size in range(1, 9))
FLOORS = RINGS + ROWS
STILL = Program("marks 1\nstep 0\nmark 0")
# None of these is an integer, a bool aside, nor a floor, a standing, a view, a text of a program.
NO_NUMBERS = (True, False, None, "", "0", "1", (), (1,), [], [1], {}, {1: 1}, STILL)
NO_TUPLES = (True, False, None, 0, 1, -1, "", "ring", [], [1], {}, {1: 1}, STILL)
BAD_FLOORS = NO_TUPLES + (
    (), ("ring",), ("ring", 4, 4), ("row", 4, 4), ["ring", 4], ["row", 1], "ring 4", ("ring", 2), ("ring", 9),
    ("ring", 0), ("ring", -3), ("row", 0), ("row", 9), ("row", -1), ("row", True), ("row", False), ("row", None),
    ("row", "4"), ("ring", (4,)), ("ring", [4]), ("Ring", 4), ("ROW", 4), ("rings", 4), ("", 4), (None, 4), (True, 4),
    (4, "ring"), (("ring",), 4), (["row"], 4), (STILL, 4), ({}, 4), (4, 4), ("row", STILL),
)
# On a row of three: no standings, each wrong in one way at least.
BAD_STANDINGS = NO_TUPLES + (
    (), ((),), (0, 0, 1), ([0, 0, 1],), [(0, 0, 1)], ((0, 0),), ((0, 0, 1, 1),), ((0, 0, 1), ()), ((0, 0, 1), None),
    ((3, 0, 1),), ((-1, 0, 1),), ((True, 0, 1),), ((None, 0, 1),), (("0", 0, 1),), (((0,), 0, 1),),
    ((0, 4, 1),), ((0, -1, 1),), ((0, True, 1),), ((0, None, 1),), ((0, "1", 1),),
    ((0, 0, 0),), ((0, 0, 2),), ((0, 0, -2),), ((0, 0, True),), ((0, 0, None),), ((0, 0, "1"),), ((0, 0, [1]),),
    ((0, 0, 1), (1, 0, 1), (2, 0, -1), (3, 0, 1)), ((0, 0, 1), (0, 4, 1)), ((0, 0, False), (0, 0, 1)), (STILL,),
    ((0, 0, 1),) * 6, ((0, 0, 1),) * 5 + ((2, 1, -1),), (((0, 0, 1),),),
)


def refusal(call, *told, **named):
    """The class of the error that comes of a call, and its value; None if none comes."""
    try:
        call(*told, **named)
    except WalkError as error:
        return (type(error), error.value)
    return None


class Refusals:
    """For test cases: which calls are refused, and with what."""

    def assert_refused(self, wrong, value, call, *told, **named):
        """The call raises just this error, with this very value."""
        found = refusal(call, *told, **named)
        self.assertIsNotNone(found, f"not refused: {value!r}")
        self.assertIs(found[0], wrong, f"refused otherwise: {value!r}")
        self.assertIs(found[1], value)

    def assert_numbered(self, wrong, number, call, *told, **named):
        """The call raises just this error, with this number, which is an int."""
        found = refusal(call, *told, **named)
        self.assertEqual(found, (wrong, number), told)
        self.assertIs(type(found[1]), int)


def forth(floor, place):
    """The next place, None behind the end of a row."""
    if place == floor[1] - 1:
        return 0 if floor[0] == "ring" else None
    return place + 1


def back(floor, place):
    """The place ahead of this one, None at the beginning of a row."""
    if place == 0:
        return floor[1] - 1 if floor[0] == "ring" else None
    return place - 1


def walked(floor, place, steps):
    """Where so many single steps lead, None beyond the end of a row."""
    for _ in range(abs(steps)):
        if place is not None:
            place = forth(floor, place) if steps > 0 else back(floor, place)
    return place


def told_view(floor, standing, walker):
    """A VIEW, put together place by place."""
    place, mark, sense = standing[walker]
    others = [entry for number, entry in enumerate(standing) if number != walker]
    sides = []
    for way in (sense, -sense):
        cells = []
        for steps in range(1, floor[1]):
            at = walked(floor, place, way * steps)
            if at is not None:
                cells.append(tuple(sorted(other[1] for other in others if other[0] == at)))
        sides.append(tuple(cells))
    here = tuple(sorted(other[1] for other in others if other[0] == place))
    return (mark, here, sides[0], sides[1])


def random_standing(chance, floor, marks=4):
    """Some STANDING, by a source of chance."""
    return tuple(
        (chance.randrange(floor[1]), chance.randrange(marks), chance.choice((1, -1)))
        for _ in range(chance.randint(1, 5))
    )


PROGRAMS = tuple(Program(text) for text in (
    "marks 1\nstep 0\nmark 0",
    "marks 2\nstep 1\nmark plus mine 1",
    "marks 2\nstep pick less ahead behind 1 -1\nmark same mine 0",
    "marks 3\nlet near less ahead behind\nstep pick count 0 pick near -1 1 turn room 1\nmark count ahead",
    "marks 4\nstep plus marked 1 mine turn count -1\nmark plus count 0 plus half mine marked -1 0",
    "marks 4\nlet odd less half mine half plus mine 1\nstep pick odd ahead -1\nmark pick less mine 3 0 plus mine 1",
))
NO_PROGRAMS = (
    None, True, 0, 1, "", "marks 1\nstep 0\nmark 0", (), (STILL,), [STILL], {}, {"text": STILL.text}, {0: STILL},
)
# None of these is a LOT of three walkers.
BAD_LOTS_OF_THREE = NO_TUPLES + (
    (), (3,), (-1,), (0, 3), (-1, 0), (0, 0), (1, 0), (0, 2, 1), (0, 1, 1), (2, 1, 0), (0, 1, 2, 3), (0, 1, 2, 2),
    (True,), (False,), (0, True), (None,), ("0",), ((0,),), ([0],), [0], [0, 1], (0, [1]), (0, None), {0: 0}, "012",
    (STILL,), ((),), (0, ()), (123456789,), (-123456789, 0),
)


def told_beat(program, floor, standing, lot):
    """The standing behind a beat, walker by walker."""
    found = list(standing)
    for walker in lot:
        place, _, sense = standing[walker]
        step, mark = thought(program, floor, told_view(floor, standing, walker))
        reached = walked(floor, place, sense * step)
        found[walker] = (place if reached is None else reached, mark, sense)
    return tuple(found)


def random_start(chance, most=5):
    """Some program, floor and STANDING of at most so many walkers."""
    program, floor = chance.choice(PROGRAMS), chance.choice(FLOORS)
    return program, floor, random_standing(chance, floor, program.marks)[:most]


def random_lots(chance, many, most):
    """Some LOTS of so many walkers, of any kind, at most so many."""
    return tuple(
        tuple(sorted(chance.sample(range(many), chance.randint(1, many)))) for _ in range(chance.randint(0, most))
    )


def random_eras(chance, many, most):
    """Some LOTS in eras, at most so many, the last era open or not."""
    lots, missing = [], []
    for _ in range(chance.randint(0, most)):
        missing = missing or list(range(many))
        lot = chance.sample(missing, chance.randint(1, len(missing)))
        lots.append(tuple(sorted(lot)))
        missing = [walker for walker in missing if walker not in lot]
    return tuple(lots)


def random_ways(chance, floor):
    """Some (by, is_mirrored) of this floor."""
    return chance.randrange(floor[1]) if floor[0] == "ring" else 0, chance.random() < 0.5


def renumbered(entries, order):
    """These entries by walkers, walker order[k] being walker k from now on."""
    return tuple(entries[walker] for walker in order)

"""What several tests need: refusals, values of other kinds, and things told anew, step by step."""

from onestillview.errors import WalkError
from onestillview.texts import Program

RINGS = tuple(("ring", size) for size in range(3, 9))
ROWS = tuple(("row", size) for size in range(1, 9))
FLOORS = RINGS + ROWS
STILL = Program("marks 1\nstep 0\nmark 0")
# None of these is an integer, a bool aside, nor a floor, a standing, a view, a text of a program.
NO_NUMBERS = (True, False, None, "", "0", "1", (), (1,), [], [1], {}, {1: 1}, STILL)
NO_TUPLES = (True, False, None, 0, 1, -1, "", "ring", [], [1], {}, {1: 1}, STILL)
BAD_FLOORS = NO_TUPLES + (
    (), ("ring",), ("ring", 4, 4), ("row", 4, 4), ["ring", 4], ["row", 1], "ring 4", ("ring", 2), ("ring", 9),
    ("ring", 0), ("ring", -3), ("row", 0), ("row", 9), ("row", -1), ("row", True), ("row", False), ("row", None),
    ("row", "4"), ("ring", (4,)), ("ring", [4]), ("Ring", 4), ("ROW", 4), ("rings", 4), ("", 4), (None, 4), (True, 4),
    (4, "ring"), (("ring",), 4), (["row"], 4), (STILL, 4), ({}, 4), (4, 4), ("row", STILL),
)
# On a row of three: no standings, each wrong in one way at least.
BAD_STANDINGS = NO_TUPLES + (
    (), ((),), (0, 0, 1), ([0, 0, 1],), [(0, 0, 1)], ((0, 0),), ((0, 0, 1, 1),), ((0, 0, 1), ()), ((0, 0, 1), None),
    ((3, 0, 1),), ((-1, 0, 1),), ((True, 0, 1),), ((None, 0, 1),), (("0", 0, 1),), (((0,), 0, 1),),
    ((0, 4, 1),), ((0, -1, 1),), ((0, True, 1),), ((0, None, 1),), ((0, "1", 1),),
    ((0, 0, 0),), ((0, 0, 2),), ((0, 0, -2),), ((0, 0, True),), ((0, 0, None),), ((0, 0, "1"),), ((0, 0, [1]),),
    ((0, 0, 1), (1, 0, 1), (2, 0, -1), (3, 0, 1)), ((0, 0, 1), (0, 4, 1)), ((0, 0, False), (0, 0, 1)), (STILL,),
    ((0, 0, 1),) * 6, ((0, 0, 1),) * 5 + ((2, 1, -1),), (((0, 0, 1),),),
)


def refusal(call, *told, **named):
    """The class of the error that comes of a call, and its value; None if none comes."""
    try:
        call(*told, **named)
    except WalkError as error:
        return (type(error), error.value)
    return None


class Refusals:
    """For test cases: which calls are refused, and with what."""

    def assert_refused(self, wrong, value, call, *told, **named):
        """The call raises just this error, with this very value."""
        found = refusal(call, *told, **named)
        self.assertIsNotNone(found, f"not refused: {value!r}")
        self.assertIs(found[0], wrong, f"refused otherwise: {value!r}")
        self.assertIs(found[1], value)

    def assert_numbered(self, wrong, number, call, *told, **named):
        """The call raises just this error, with this number, which is an int."""
        found = refusal(call, *told, **named)
        self.assertEqual(found, (wrong, number), told)
        self.assertIs(type(found[1]), int)


def forth(floor, place):
    """The next place, None behind the end of a row."""
    if place == floor[1] - 1:
        return 0 if floor[0] == "ring" else None
    return place + 1


def back(floor, place):
    """The place ahead of this one, None at the beginning of a row."""
    if place == 0:
        return floor[1] - 1 if floor[0] == "ring" else None
    return place - 1


def walked(floor, place, steps):
    """Where so many single steps lead, None beyond the end of a row."""
    for _ in range(abs(steps)):
        if place is not None:
            place = forth(floor, place) if steps > 0 else back(floor, place)
    return place


def told_view(floor, standing, walker):
    """A VIEW, put together place by place."""
    place, mark, sense = standing[walker]
    others = [entry for number, entry in enumerate(standing) if number != walker]
    sides = []
    for way in (sense, -sense):
        cells = []
        for steps in range(1, floor[1]):
            at = walked(floor, place, way * steps)
            if at is not None:
                cells.append(tuple(sorted(other[1] for other in others if other[0] == at)))
        sides.append(tuple(cells))
    here = tuple(sorted(other[1] for other in others if other[0] == place))
    return (mark, here, sides[0], sides[1])


def random_standing(chance, floor, marks=4):
    """Some STANDING, by a source of chance."""
    return tuple(
        (chance.randrange(floor[1]), chance.randrange(marks), chance.choice((1, -1)))
        for _ in range(chance.randint(1, 5))
    )

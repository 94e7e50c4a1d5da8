"""Halls: walkers who look, think and step, each in its own time."""

from onestillview.deeds import check_idle, check_looked, check_thought, copy_deeds
from onestillview.deeds import do_deed, do_log, held_by, note_deed, take_mark, take_step
from onestillview.errors import Pending
from onestillview.floors import view_of
from onestillview.texts import check_start


class Hall:
    """Walkers with this program on this floor, all idle at first in this standing."""

    def __init__(self, program, floor, standing):
        check_start(program, floor, standing)
        self.program = program
        self.floor = floor
        self.first = standing
        self.standing = standing
        self.stages = ("idle",) * len(standing)
        self.log = ()
        # For each walker the VIEW or the step that it holds, None if it is idle.
        self.holding = (None,) * len(standing)

    def __eq__(self, other):
        if not isinstance(other, Hall):
            return False
        if self.program != other.program or self.floor != other.floor:
            return False
        return self.first == other.first and self.log == other.log

    def __len__(self):
        return len(self.log)

    def look(self, walker):
        """The walker takes its VIEW, and holds it."""
        check_idle(self, walker)
        note_deed(self, "look", walker, view_of(self.floor, self.standing, walker))

    def think(self, walker):
        """The walker thinks by the VIEW that it holds: it takes the mark, and holds the step."""
        check_looked(self, walker)
        step = take_mark(self, walker, self.holding[walker])
        note_deed(self, "think", walker, step)

    def step(self, walker):
        """The walker goes by the step that it holds, and is idle."""
        check_thought(self, walker)
        take_step(self, walker)
        note_deed(self, "step", walker, None)

    def go(self, walker):
        """The walker looks, thinks and steps."""
        self.look(walker)
        self.think(walker)
        self.step(walker)

    def do(self, deed):
        """Does this deed."""
        do_deed(self, deed)

    def held(self, walker):
        """The VIEW or the step that the walker holds, None if it is idle."""
        return held_by(self, walker)

    def copy(self):
        """An equal Hall by itself."""
        other = Hall(self.program, self.floor, self.first)
        copy_deeds(self, other)
        return other


def replayed(program, floor, standing, log):
    """The Hall behind these deeds."""
    hall = Hall(program, floor, standing)
    do_log(hall, log)
    return hall


def cycles_of(log):
    """The cycles of a log behind which all are idle: (look, think, step, walker), by their looks."""
    begun = {}
    cycles = []
    for number, (word, walker) in enumerate(log):
        if word == "look":
            begun[walker] = []
        begun[walker].append(number)
        if word == "step":
            cycles.append((*begun[walker], walker))
    return sorted(cycles)


def is_ahead(one, other):
    """Whether this cycle is ahead of the other one."""
    return one[2] < other[0]


def are_beside(one, other):
    """Whether these two cycles are beside one another."""
    return one[0] < other[1] and other[0] < one[1]


def as_beats(hall):
    """The LOTS as which the deeds of this Hall can be read, None if they can't."""
    if hall.stages != ("idle",) * len(hall.stages):
        raise Pending(None)
    rows = []
    # By their looks, a cycle belongs to the last row, or all of that row are ahead of it, and so all rows are.
    for cycle in cycles_of(hall.log):
        last = rows[-1] if rows else []
        if all([is_ahead(other, cycle) for other in last]):
            rows.append([cycle])
        elif all([are_beside(other, cycle) for other in last]):
            last.append(cycle)
        else:
            return None
    return tuple([tuple(sorted([cycle[3] for cycle in row])) for row in rows])

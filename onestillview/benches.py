"""Benches, at which walkers with the fine rule of lamps are led, and taken back."""

from onestillview.checks import check_walker, is_within
from onestillview.errors import BadTimes, NoBlock, NothingToRedo, NothingToUndo
from onestillview.lamps import Lit, fine_rule
from onestillview.texts import Program

MOST_TURNS = 200


def go_on(lit, walker):
    """Lets the walker do what is left of its cycle."""
    if lit.stages[walker] == "idle":
        lit.look(walker)
    if lit.stages[walker] == "looked":
        lit.think(walker)
    lit.step(walker)


def show(bench, lit, done, undone):
    """Lets the bench be at this Lit, these deeds being done and those taken back."""
    bench.lit = lit
    bench.done = done
    bench.undone = undone
    bench.standing = lit.standing
    bench.stages = lit.stages
    bench.lamps = lit.lamps
    bench.deeds = len(done)


def note(bench, deed, lit):
    """Notes a deed of the bench, behind which its Lit is this one."""
    show(bench, lit, bench.done + ((deed, bench.lit, lit),), ())


class Bench:
    """A bench with this program, floor and standing: at first no deed is done."""

    def __init__(self, text, floor, standing):
        program = Program(text)
        lit = Lit(program, floor, standing, fine_rule())
        self.program = program
        self.floor = floor
        self.first = standing
        self.standing = standing
        self.stages = lit.stages
        self.lamps = lit.lamps
        self.deeds = 0
        # A Lit that is kept here is not changed any more, so that it can be taken back: each deed leads to a new one.
        self.lit = lit
        # (deed, Lit ahead of it, Lit behind it) of the deeds that stand, and of those that were taken back last.
        self.done = ()
        self.undone = ()
        # For each trial that goes on, the innermost one last, whether it is to be kept.
        self.trials = ()

    def __eq__(self, other):
        # Journals are equal if what they tell is.
        if not isinstance(other, Bench):
            return False
        if self.program != other.program or self.floor != other.floor or self.first != other.first:
            return False
        return [entry[0] for entry in self.done] == [entry[0] for entry in other.done]

    def __len__(self):
        return len(self.lit.log)

    def look(self, walker):
        """The walker looks."""
        lit = self.lit.copy()
        lit.look(walker)
        note(self, ("look", walker), lit)

    def think(self, walker):
        """The walker thinks."""
        lit = self.lit.copy()
        lit.think(walker)
        note(self, ("think", walker), lit)

    def step(self, walker):
        """The walker steps."""
        lit = self.lit.copy()
        lit.step(walker)
        note(self, ("step", walker), lit)

    def go(self, walker):
        """The walker does what is left of its cycle."""
        check_walker(self.standing, walker)
        lit = self.lit.copy()
        go_on(lit, walker)
        note(self, ("go", walker), lit)

    def turns(self, many):
        """So many times each walker, ascending, does what is left of its cycle."""
        if not is_within(many, 0, MOST_TURNS):
            raise BadTimes(many)
        lit = self.lit.copy()
        for _ in range(many):
            for walker in range(len(self.standing)):
                go_on(lit, walker)
        note(self, ("turns", many), lit)

    def stand(self, standing):
        """All begin anew, from this standing."""
        note(self, ("stand", standing), Lit(self.program, self.floor, standing, fine_rule()))

    def lit_now(self):
        """A Lit by itself, equal to that of the bench as it is now."""
        return self.lit.copy()

    def undo(self):
        """Takes the last deed back that stands."""
        if self.done == ():
            raise NothingToUndo(None)
        entry = self.done[-1]
        show(self, entry[1], self.done[:-1], self.undone + (entry,))

    def redo(self):
        """Does the deed again that was taken back last."""
        if self.undone == ():
            raise NothingToRedo(None)
        entry = self.undone[-1]
        show(self, entry[2], self.done + (entry,), self.undone[:-1])

    def tried(self, look, *, keep=False):
        """Calls look with the bench; what was done in it stands only if it is kept, and no error came."""
        ahead = self.copy()
        trials = self.trials
        kept = None
        self.trials = trials + (False,)
        try:
            told = look(self)
            if keep is True or self.trials[-1]:
                kept = True
        finally:
            self.trials = trials
            if kept is None:
                self.lit, self.done, self.undone = ahead.lit, ahead.done, ahead.undone
                self.standing, self.stages, self.lamps = ahead.standing, ahead.stages, ahead.lamps
                self.deeds = ahead.deeds
        return told

    def keep(self):
        """Lets what is done in the innermost trial stand."""
        if self.trials == ():
            raise NoBlock(None)
        self.trials = self.trials[:-1] + (True,)

    def copy(self):
        """A bench by itself, alike in all things, outside of all trials."""
        other = Bench(self.program.text, self.floor, self.first)
        show(other, self.lit, self.done, self.undone)
        return other

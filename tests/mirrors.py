"""Benches told anew, by lists of deeds that are done all over again, as point 13 says it."""

from onestillview.errors import BadStanding, BadTimes, BadWalker, Busy, NoLook, NoThought, NothingToRedo, NothingToUndo
from tests.models import Model, told_of
from tests.tellers import FINE

NEXT = {"idle": "look", "looked": "think", "thought": "step"}
REFUSED = {"look": Busy, "think": NoLook, "step": NoThought}


def go_on(model, walker):
    """Does what is left of this walker's cycle."""
    while True:
        word = NEXT[model.stages[walker]]
        model.do(word, walker)
        if word == "step":
            return


def line_of(deed):
    """The line of this deed in a journal."""
    word, told = deed
    if word == "stand":
        return " ".join(["stand"] + [str(number) for entry in told for number in entry])
    return f"{word} {told}"


class Mirror:
    """What a bench is to be: how it was made, the deeds that stand, and those that were taken back."""

    def __init__(self, program, floor, first):
        self.program, self.floor, self.first = program, floor, first
        self.deeds, self.undone = [], []

    def model(self):
        """The walkers behind the deeds that stand."""
        model = Model(self.program, self.floor, self.first, FINE)
        for word, told in self.deeds:
            if word == "stand":
                model = Model(self.program, self.floor, told, FINE)
            elif word == "turns":
                for _ in range(told):
                    for walker in range(len(model.stages)):
                        go_on(model, walker)
            elif word == "go":
                go_on(model, told)
            else:
                model.do(word, told)
        return model

    def refusal(self, word, told):
        """(error, value) by which this deed is to be refused, None if it isn't."""
        if word == "undo":
            return None if self.deeds else (NothingToUndo, None)
        if word == "redo":
            return None if self.undone else (NothingToRedo, None)
        if word == "turns":
            return None if type(told) is int and 0 <= told <= 200 else (BadTimes, told)
        if word == "stand":
            return None if isinstance(told, tuple) and told else (BadStanding, told)
        stages = self.model().stages
        if type(told) is not int or not 0 <= told < len(stages):
            return (BadWalker, told)
        return None if word == "go" or NEXT[stages[told]] == word else (REFUSED[word], told)

    def do(self, word, told):
        """Does this deed, which isn't refused."""
        if word == "undo":
            self.undone.append(self.deeds.pop())
        elif word == "redo":
            self.deeds.append(self.undone.pop())
        else:
            self.deeds.append((word, told))
            self.undone = []

    def journal(self):
        """The journal of it."""
        standing = [str(number) for entry in self.first for number in entry]
        head = [self.program.text, f"floor {self.floor[0]} {self.floor[1]}", " ".join(["standing"] + standing), "deeds"]
        return "\n".join(head + [line_of(deed) for deed in self.deeds])

    def told(self):
        """All that a bench tells of itself."""
        model = self.model()
        return (
            self.program.text, self.floor, model.standing, tuple(model.stages), tuple(model.lamps), len(self.deeds),
            len(model.log), model.told(),
        )


def told_of_bench(bench):
    """The same of a bench itself."""
    return (
        bench.program.text, bench.floor, bench.standing, bench.stages, bench.lamps, bench.deeds, len(bench),
        told_of(bench.lit_now()),
    )


def do_at_bench(bench, word, told):
    """Does this deed at the bench."""
    if word in ("undo", "redo"):
        return getattr(bench, word)()
    return getattr(bench, word)(told)


def drawn_deed(chance, mirror):
    """(word, what is told) of some deed, now and then of one that is refused."""
    stages = mirror.model().stages
    walker = chance.randrange(len(stages))
    words = ("next", "next", "go", "look", "think", "step", "turns", "stand", "undo", "undo", "redo", "redo")
    word = chance.choice(words)
    if word == "next":
        word = NEXT[stages[walker]]
    if word in ("undo", "redo"):
        return word, None
    if word == "turns":
        return word, chance.choice((0, 1, 2, 3, -1, 201, None, True))
    if word == "stand":
        size, marks = mirror.floor[1], mirror.program.marks
        many = chance.randint(0, 4)
        entries = [(chance.randrange(size), chance.randrange(marks), chance.choice((1, -1))) for _ in range(many)]
        return word, tuple(entries)
    return word, walker if chance.random() < 0.93 else chance.choice((len(stages), -1, None, True, "0"))
